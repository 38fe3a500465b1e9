/- The check by which a program tells a point's part: within the bounds, the same as its whole number, not -0: just the words of whole numbers pass. Plain mathematics: no program is named. -/
import Derived.Test.YtgokjdlemfaagaaFlr
namespace Go.Proofs.Ytgokjdlemfaagaa.Fl
open Ieee
set_option linter.unusedVariables false
theorem pow_le_cancel {a b k : Nat} (h : a * 2 ^ k ≤ b * 2 ^ k) : a ≤ b := Nat.le_of_mul_le_mul_right h (Nat.two_pow_pos k)
theorem pow_eq_cancel {a b k : Nat} (h : a * 2 ^ k = b * 2 ^ k) : a = b := Nat.eq_of_mul_eq_mul_right (Nat.two_pow_pos k) h
theorem within (x : Nat) (hx : x < 18446744073709551616) (h1 : double.order x lo = some .gt ∨ double.order x lo = some .eq) (h2 : double.order x hi = some .lt ∨ double.order x hi = some .eq) :
    ∃ t : Int, (double.read x).toInt .zero = some t ∧ t.natAbs ≤ 1048576 ∧ (double.order x (fw false t) = some .eq → ∃ s, Is (double.read x) s t) := by
  unfold Format.order at h1 h2 ⊢
  rw [read_lo] at h1
  rw [read_hi] at h2
  cases hr : double.read x with
  | nan s f => rw [hr] at h1; rcases h1 with h | h <;> cases h
  | infinity s =>
    rw [hr] at h1 h2
    cases s
    · rcases h2 with h | h <;> cases h
    · rcases h1 with h | h <;> cases h
  | number s m e =>
    rw [hr] at h1 h2
    obtain ⟨r, hrl, -, hform⟩ := read_form x hx hr
    have he : -1074 ≤ e := by rcases hform with ⟨_, _, rfl⟩ | ⟨_, _, rfl⟩ <;> omega
    obtain ⟨c, hc⟩ : ∃ c : Nat, min e (-32) = -(c : Int) := ⟨(-(min e (-32))).toNat, by omega⟩
    obtain ⟨D, hD⟩ : ∃ D : Nat, (e - -(c : Int)).toNat = D := ⟨_, rfl⟩
    have hDe : (D : Int) = e + c := by omega
    have hc32 : ((-32 : Int) - -(c : Int)).toNat = c - 32 := by omega
    unfold Datum.order at h1 h2
    simp only [hc, hD, hc32] at h1 h2
    have habs := signed_abs s m D
    have b1 := cmp_ge (by rcases h1 with h | h; exact .inl (Option.some.inj h); exact .inr (Option.some.inj h))
    have b2 := cmp_le (by rcases h2 with h | h; exact .inl (Option.some.inj h); exact .inr (Option.some.inj h))
    have a1 := signed_abs true (1048576 * 2 ^ 32) (c - 32)
    have a2 := signed_abs false (1048576 * 2 ^ 32) (c - 32)
    have s1 : signed true (1048576 * 2 ^ 32) (c - 32) ≤ 0 := by unfold signed; rw [if_pos rfl]; omega
    have s2 : 0 ≤ signed false (1048576 * 2 ^ 32) (c - 32) := by unfold signed; rw [if_neg (by decide)]; omega
    have hbig : 1048576 * 2 ^ 32 * 2 ^ (c - 32) = 1048576 * 2 ^ c := by rw [Nat.mul_assoc, ← Nat.pow_add, show 32 + (c - 32) = c by omega]
    rw [hbig] at a1 a2
    have hle : m * 2 ^ D ≤ 1048576 * 2 ^ c := by omega
    clear h1 h2 b1 b2 a1 a2 s1 s2 hbig habs
    obtain ⟨q, hq⟩ : ∃ q, Toward.zero.cut s (m <<< e.toNat) (-e).toNat = q := ⟨_, rfl⟩
    have hint : (Datum.number s m e).toInt .zero = some (signed s q 0) := by
      unfold Datum.toInt Datum.integral
      simp only [hq]
    have hq20 : q ≤ 1048576 := by
      have hcut := cut_zero_le s (m <<< e.toNat) (-e).toNat
      rw [hq] at hcut
      rcases Int.lt_or_le e 0 with hn | hp
      · have e0 : e.toNat = 0 := by omega
        obtain ⟨d, hd⟩ : ∃ d : Nat, (-e).toNat = d := ⟨_, rfl⟩
        rw [e0, hd, Nat.shiftLeft_zero] at hcut
        have hcd : c = D + d := by omega
        rw [hcd, Nat.pow_add, Nat.mul_comm (2 ^ D), ← Nat.mul_assoc] at hle
        have := pow_le_cancel hle
        have h3 : m / 2 ^ d ≤ 1048576 := by
          have h4 := Nat.div_le_div_right (c := 2 ^ d) this
          rw [Nat.mul_div_cancel _ (Nat.two_pow_pos d)] at h4
          exact h4
        omega
      · have e0 : (-e).toNat = 0 := by omega
        rw [e0, Nat.pow_zero, Nat.div_one, Nat.shiftLeft_eq] at hcut
        have hc32' : c = 32 := by omega
        have hDd : D = e.toNat + 32 := by omega
        rw [hc32', hDd, Nat.pow_add, ← Nat.mul_assoc] at hle
        have := pow_le_cancel hle
        omega
    have ht : (signed s q 0).natAbs = q := by rw [signed_abs]; simp
    refine ⟨signed s q 0, hint, by omega, fun h3 => ?_⟩
    generalize hT : signed s q 0 = t at *
    obtain ⟨u, hu⟩ : ∃ u, Is (double.read (fw false t)) u t := ⟨_, read_fw' false t (by omega)⟩
    obtain ⟨k, hk, hk2, hus⟩ := hu
    rw [hk2] at h3
    obtain ⟨C, hC⟩ : ∃ C : Nat, min e (-(k : Int)) = -(C : Int) := ⟨(-(min e (-(k : Int)))).toNat, by omega⟩
    obtain ⟨E, hE⟩ : ∃ E : Nat, (e - -(C : Int)).toNat = E := ⟨_, rfl⟩
    have hEe : (E : Int) = e + C := by omega
    have hkC : (-(k : Int) - -(C : Int)).toNat = C - k := by omega
    unfold Datum.order at h3
    simp only [hC, hE, hkC] at h3
    have h4 := cmp_same (Option.some.inj h3)
    rw [signed_scaled u t k (C - k) hus, show k + (C - k) = C by omega] at h4
    have h5 := congrArg Int.natAbs h4
    rw [signed_abs, natAbs_mul_pow] at h5
    have he0 : e ≤ 0 := by
      rcases Int.lt_or_le 0 e with hp | hn
      · exfalso
        have hm : 4503599627370496 ≤ m := by
          rcases hform with ⟨_, _, w⟩ | ⟨_, w, _⟩
          · omega
          · omega
        have hc32' : c = 32 := by omega
        have hDd : D = e.toNat + 32 := by omega
        rw [hc32', hDd, Nat.pow_add, ← Nat.mul_assoc] at hle
        have h6 := pow_le_cancel hle
        have h7 : m * 1 ≤ m * 2 ^ e.toNat := Nat.mul_le_mul_left _ (Nat.two_pow_pos _)
        omega
      · exact hn
    obtain ⟨d, hd⟩ : ∃ d : Nat, e = -(d : Int) := ⟨(-e).toNat, by omega⟩
    subst hd
    have hCd : C = E + d := by omega
    rw [hCd, Nat.pow_add, Nat.mul_comm (2 ^ E), ← Nat.mul_assoc] at h5
    have h6 := pow_eq_cancel h5
    refine ⟨s, d, by omega, by rw [h6], fun hne => ?_⟩
    have hp := pow_i C
    cases s
    · have : 0 ≤ signed false m E := by unfold signed; rw [if_neg (by decide)]; omega
      rw [h4] at this
      have h8 : ¬ t < 0 := fun h => by have := Int.mul_neg_of_neg_of_pos h hp; omega
      exact (decide_eq_false h8).symm
    · have : signed true m E ≤ 0 := by unfold signed; rw [if_pos rfl]; omega
      rw [h4] at this
      have h8 : t < 0 := by
        rcases Int.lt_or_le t 0 with h | h
        · exact h
        · have := Int.mul_pos (show 0 < t by omega) hp; omega
      exact (decide_eq_true h8).symm
/-- One over a zero. -/
theorem one_over (z : Bool) : floatBits .quo .f64 (fw false 1) (fw z 0) = some (double.word z double.infRung) := by cases z <;> decide +kernel
theorem inf_over (z : Bool) : (double.order (double.word z double.infRung) (fw false 0) == some .gt) = !z := by cases z <;> decide +kernel
theorem bits_lt (z : Bool) (n : Int) (hn : n.natAbs < 9007199254740992) : fw z n < 18446744073709551616 := by
  have hr := rung_lt hn
  rw [fw_word z n hn]
  unfold Format.word
  rw [dbl_sign]
  generalize (if n = 0 then z else decide (n < 0)) = b
  cases b
  · rw [if_neg (by decide)]; omega
  · rw [if_pos rfl]; omega
/-- May x be a point's part? -/
def partB (x : Nat) : Bool :=
  if double.order x lo = some .gt ∨ double.order x lo = some .eq then
    if double.order x hi = some .lt ∨ double.order x hi = some .eq then
      match (double.read x).toInt .zero with
      | some t => double.order x (fw false t) == some .eq && (double.order x (fw false 0) != some .eq || decide (x = fw false 0))
      | none => false
    else false
  else false
/-- Just the whole numbers within the bounds are. -/
theorem partB_fw (n : Int) (hn : n.natAbs ≤ 1048576) : partB (fw false n) = true := by
  have hs : n.natAbs < 9007199254740992 := by omega
  have o1 : double.order (fw false n) lo = some (compare n (-1048576)) := order_fw _ _ _ _ hs (by decide)
  have o2 : double.order (fw false n) hi = some (compare n 1048576) := order_fw _ _ _ _ hs (by decide)
  have o3 : double.order (fw false n) (fw false 0) = some (compare n 0) := order_fw _ _ _ _ hs (by decide)
  unfold partB
  rw [o1, o2, o3, if_pos, if_pos, toInt_is (read_fw' false n hs)]
  · dsimp only
    rw [order_fw _ _ _ _ hs hs, cmp_eq]
    by_cases e : n = 0
    · subst e; simp
    · rcases Int.lt_or_le n 0 with c | c
      · rw [cmp_lt c]; rfl
      · rw [cmp_gt (by omega)]; rfl
  · rcases Int.lt_or_le n 1048576 with c | c
    · left; rw [cmp_lt c]
    · right; rw [show n = 1048576 by omega, cmp_eq]
  · rcases Int.lt_or_le (-1048576) n with c | c
    · left; rw [cmp_gt c]
    · right; rw [show n = -1048576 by omega, cmp_eq]
theorem partB_is (x : Nat) (hx : x < 18446744073709551616) (h : partB x = true) : ∃ n : Int, n.natAbs ≤ 1048576 ∧ x = fw false n := by
  unfold partB at h
  split at h
  · rename_i h1
    split at h
    · rename_i h2
      obtain ⟨t, ht, hb, hi3⟩ := within x hx h1 h2
      rw [ht] at h
      dsimp only at h
      rw [Bool.and_eq_true, beq_iff_eq, Bool.or_eq_true, bne_iff_ne, decide_eq_true_eq] at h
      obtain ⟨h3, h4⟩ := h
      obtain ⟨s, hs⟩ := hi3 h3
      have hxf := is_fw x hx hs (by omega)
      by_cases e : t = 0
      · subst e
        rcases h4 with h4 | h4
        · exfalso
          apply h4
          rw [hxf, order_fw _ _ _ _ (by decide) (by decide), cmp_eq]
        · exact ⟨0, by decide, h4⟩
      · refine ⟨t, hb, ?_⟩
        rw [hxf]
        unfold fw
        rw [if_neg e, if_neg e]
    · cases h
  · cases h
end Go.Proofs.Ytgokjdlemfaagaa.Fl
