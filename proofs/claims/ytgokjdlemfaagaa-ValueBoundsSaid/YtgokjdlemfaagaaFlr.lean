/- Which words are whole numbers: a word is what is written of what is read of it; the checks by which a program tells a whole number within bounds. Plain mathematics: no program is named. -/
import Derived.Test.YtgokjdlemfaagaaFlo
namespace Go.Proofs.Ytgokjdlemfaagaa.Fl
open Ieee
set_option linter.unusedVariables false

theorem read_form (x : Nat) (hx : x < 18446744073709551616) {s : Bool} {m : Nat} {e : Int} (h : double.read x = .number s m e) :
    ∃ r, r < 9218868437227405312 ∧ x = double.word s r ∧ ((r < 4503599627370496 ∧ m = r ∧ e = -1074) ∨ (4503599627370496 ≤ r ∧ m = 4503599627370496 + r % 4503599627370496 ∧ e = -1074 + ((r / 4503599627370496 - 1 : Nat) : Int))) := by
  have hw : double.word (x / double.signWeight % 2 == 1) (x % double.signWeight) = x := by
    unfold Format.word
    rw [dbl_sign]
    have : x / 9223372036854775808 = 0 ∨ x / 9223372036854775808 = 1 := by omega
    rcases this with c | c
    · rw [c, if_neg (by decide)]; omega
    · rw [c, if_pos (by decide)]; omega
  unfold Format.read at h
  simp only [dbl_binade, dbl_inf, dbl_least] at h
  generalize hs : (x / double.signWeight % 2 == 1) = t at *
  generalize hr : x % double.signWeight = r at *
  by_cases c1 : r < 4503599627370496
  · rw [if_pos c1] at h
    injection h with h1 h2 h3
    subst h1
    exact ⟨r, by omega, hw.symm, .inl ⟨c1, h2.symm, h3.symm⟩⟩
  · rw [if_neg c1] at h
    by_cases c2 : r < 9218868437227405312
    · rw [if_pos c2] at h
      injection h with h1 h2 h3
      subst h1
      exact ⟨r, c2, hw.symm, .inr ⟨by omega, h2.symm, h3.symm⟩⟩
    · rw [if_neg c2] at h
      split at h <;> cases h
theorem log2_low {m : Nat} (h0 : m ≠ 0) (h : m < 4503599627370496) : m.log2 < 52 := (Nat.log2_lt h0 (k := 52)).2 h
theorem log2_mid {m : Nat} (h : 4503599627370496 ≤ m) (h' : m < 9007199254740992) : m.log2 = 52 := (Nat.log2_eq_iff (by omega)).2 ⟨h, h'⟩
theorem write_read (x : Nat) (hx : x < 18446744073709551616) {s : Bool} {m : Nat} {e : Int} (h : double.read x = .number s m e) : double.write (double.read x) = x := by
  obtain ⟨r, hr, hxw, hf⟩ := read_form x hx h
  rw [h]
  show double.nearest s m e = x
  rw [hxw]
  unfold Format.nearest
  have hfb : (double.fractionBits : Int) = 52 := rfl
  rcases hf with ⟨c1, rfl, rfl⟩ | ⟨c1, rfl, rfl⟩
  · by_cases h0 : m = 0
    · subst h0; rw [if_pos rfl]
    · rw [if_neg h0]
      have hl := log2_low h0 c1
      have hlast : max ((-1074 : Int) + (m.log2 : Nat) - (double.fractionBits : Nat)) double.leastPlace = -1074 := by rw [dbl_least, hfb]; omega
      simp only [hlast]
      have e1 : ((-1074 : Int) - -1074).toNat = 0 := by decide
      rw [e1, Nat.shiftLeft_zero, cut_none, dbl_least, e1, dbl_inf, Nat.zero_mul, Nat.zero_add, Nat.min_eq_left (by omega)]
  · have hm : 4503599627370496 + r % 4503599627370496 < 9007199254740992 := by omega
    rw [if_neg (by omega), log2_mid (by omega) hm]
    have hlast : max (-1074 + ((r / 4503599627370496 - 1 : Nat) : Int) + (52 : Nat) - (double.fractionBits : Nat)) double.leastPlace = -1074 + ((r / 4503599627370496 - 1 : Nat) : Int) := by rw [dbl_least, hfb]; omega
    simp only [hlast]
    have e1 : (-1074 + ((r / 4503599627370496 - 1 : Nat) : Int) - (-1074 + ((r / 4503599627370496 - 1 : Nat) : Int))).toNat = 0 := by omega
    rw [e1, Nat.shiftLeft_zero, cut_none, dbl_least, dbl_inf, dbl_binade]
    have e2 : (-1074 + ((r / 4503599627370496 - 1 : Nat) : Int) - -1074).toNat = r / 4503599627370496 - 1 := by omega
    rw [e2]
    have e3 : (r / 4503599627370496 - 1) * 4503599627370496 + (4503599627370496 + r % 4503599627370496) = r := by omega
    rw [e3, Nat.min_eq_left (by omega)]
/-- A word that reads as a whole number is that number's. -/
theorem is_fw (x : Nat) (hx : x < 18446744073709551616) {s : Bool} {n : Int} (h : Is (double.read x) s n) (hn : n.natAbs < 9007199254740992) : x = fw s n := by
  have q := write_fw h hn
  obtain ⟨k, hk, e, _⟩ := h
  rw [← q, write_read x hx e]
/-- The bounds of a point's parts. -/
def lo : Nat := fw false (-1048576)
def hi : Nat := fw false 1048576
theorem read_hi : double.read hi = .number false (1048576 * 2 ^ 32) (-32) := by decide +kernel
theorem read_lo : double.read lo = .number true (1048576 * 2 ^ 32) (-32) := by decide +kernel
theorem cut_zero_le (s : Bool) (n d : Nat) : Toward.zero.cut s n d ≤ n / 2 ^ d := by
  unfold Toward.cut
  simp only [Nat.one_shiftLeft]
  by_cases c : d ≤ n.log2 + 2
  · rw [Nat.min_eq_left c]; simp
  · rw [Nat.min_eq_right (by omega)]
    have h1 : n < 2 ^ (n.log2 + 2) := Nat.lt_of_lt_of_le Nat.lt_log2_self (Nat.pow_le_pow_right (by decide) (by omega))
    rw [Nat.div_eq_of_lt h1]
    simp
theorem signed_abs (s : Bool) (m j : Nat) : (signed s m j).natAbs = m * 2 ^ j := by
  unfold signed
  rw [Nat.shiftLeft_eq]
  cases s
  · rw [if_neg (by decide)]; exact Int.natAbs_natCast _
  · rw [if_pos rfl, Int.natAbs_neg]; exact Int.natAbs_natCast _
theorem cmp_le {m n : Int} (h : compare m n = .lt ∨ compare m n = .eq) : m ≤ n := by
  rcases Int.lt_or_le n m with c | c
  · rw [cmp_gt c] at h
    rcases h with h | h <;> cases h
  · exact c
theorem cmp_ge {m n : Int} (h : compare m n = .gt ∨ compare m n = .eq) : n ≤ m := by
  rcases Int.lt_or_le m n with c | c
  · rw [cmp_lt c] at h
    rcases h with h | h <;> cases h
  · exact c
theorem cmp_same {m n : Int} (h : compare m n = .eq) : m = n := by
  have a := cmp_le (.inr h)
  have b := cmp_ge (.inr h)
  omega
end Go.Proofs.Ytgokjdlemfaagaa.Fl
