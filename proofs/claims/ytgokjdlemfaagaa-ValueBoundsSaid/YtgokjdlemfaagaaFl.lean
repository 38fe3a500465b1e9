/- Whole numbers as IEEE doubles: their words, sums, products, how they compare, what they are as integers. Plain mathematics: no program is named. -/
import Derived.Laws.FloatArith
import Derived.Laws.ComplexArith
namespace Go.Proofs.Ytgokjdlemfaagaa.Fl
open Ieee
set_option linter.unusedVariables false

/-- d is the whole number n, with the sign s. -/
def Is (d : Datum) (s : Bool) (n : Int) : Prop := ∃ k : Nat, k ≤ 1074 ∧ d = .number s (n.natAbs * 2 ^ k) (-(k : Int)) ∧ (n ≠ 0 → s = decide (n < 0))
/-- The word of the whole number n, a zero with the sign z. -/
def fw (z : Bool) (n : Int) : Nat := double.write (.number (if n = 0 then z else decide (n < 0)) n.natAbs 0)
theorem dbl_least : double.leastPlace = -1074 := by decide
theorem dbl_binade : double.binade = 4503599627370496 := by decide
theorem dbl_inf : double.infRung = 9218868437227405312 := by decide
theorem dbl_sign : double.signWeight = 9223372036854775808 := by decide
theorem log2_mul_pow (n k : Nat) (h : n ≠ 0) : (n * 2 ^ k).log2 = n.log2 + k := by
  have hp := Nat.two_pow_pos k
  have hne : n * 2 ^ k ≠ 0 := Nat.mul_ne_zero h (by omega)
  rw [Nat.log2_eq_iff hne]
  obtain ⟨a, b⟩ := (Nat.log2_eq_iff h).1 rfl
  constructor
  · rw [Nat.pow_add]; exact Nat.mul_le_mul_right _ a
  · rw [show n.log2 + k + 1 = (n.log2 + 1) + k by omega, Nat.pow_add]; exact Nat.mul_lt_mul_of_pos_right b hp
theorem cut_none (s : Bool) (n : Nat) : Toward.even.cut s n 0 = n := by
  have e : (1 <<< min 0 (n.log2 + 2)) = 1 := by simp
  unfold Toward.cut
  simp only [e, Nat.div_one, Nat.mod_one]
  simp
theorem cut_exact (s : Bool) (n d : Nat) (h : n ≠ 0) : Toward.even.cut s (n * 2 ^ d) d = n := by
  have hl : min d ((n * 2 ^ d).log2 + 2) = d := by
    rw [log2_mul_pow n d h]; omega
  have hp := Nat.two_pow_pos d
  unfold Toward.cut
  simp only [hl, Nat.one_shiftLeft, Nat.mul_div_cancel _ hp, Nat.mul_mod_left]
  have h1 : decide (2 ^ d < 2 * 0) = false := by simp
  have h2 : (2 ^ d == 2 * 0) = false := by
    rw [beq_eq_false_iff_ne]; omega
  simp [h2]
/-- The rung of a whole number. -/
def rung (m : Nat) : Nat := if m = 0 then 0 else (m.log2 + 1022) * 4503599627370496 + m * 2 ^ (52 - m.log2)
theorem log2_lt53 {m : Nat} (h0 : m ≠ 0) (h : m < 9007199254740992) : m.log2 ≤ 52 := by
  have := (Nat.log2_lt h0 (k := 53)).2 h
  omega
theorem kept_bounds {m : Nat} (h0 : m ≠ 0) (h : m < 9007199254740992) : ∃ x, m * 2 ^ (52 - m.log2) = x ∧ 4503599627370496 ≤ x ∧ x < 9007199254740992 := by
  obtain ⟨h1, h2⟩ := (Nat.log2_eq_iff h0).1 rfl
  have h3 := log2_lt53 h0 h
  have e1 : 4503599627370496 = 2 ^ m.log2 * 2 ^ (52 - m.log2) := by rw [← Nat.pow_add, show m.log2 + (52 - m.log2) = 52 by omega]
  have e2 : 9007199254740992 = 2 ^ (m.log2 + 1) * 2 ^ (52 - m.log2) := by rw [← Nat.pow_add, show m.log2 + 1 + (52 - m.log2) = 53 by omega]
  have hp := Nat.two_pow_pos (52 - m.log2)
  exact ⟨_, rfl, by rw [e1]; exact Nat.mul_le_mul_right _ h1, by rw [e2]; exact Nat.mul_lt_mul_of_pos_right h2 hp⟩
theorem rung_is {m : Nat} (h0 : m ≠ 0) : rung m = (m.log2 + 1022) * 4503599627370496 + m * 2 ^ (52 - m.log2) := if_neg h0
theorem rung_lt {m : Nat} (h : m < 9007199254740992) : rung m < 9218868437227405312 := by
  by_cases h0 : m = 0
  · subst h0; decide
  · obtain ⟨x, hx, k1, k2⟩ := kept_bounds h0 h
    have h3 := log2_lt53 h0 h
    rw [rung_is h0, hx]
    omega
theorem nearest_whole (s : Bool) (m k : Nat) (h : m < 9007199254740992) : double.nearest s (m * 2 ^ k) (-(k : Int)) = double.word s (rung m) := by
  by_cases h0 : m = 0
  · subst h0
    simp [Format.nearest, rung]
  · have hp := Nat.two_pow_pos k
    have hne : m * 2 ^ k ≠ 0 := Nat.mul_ne_zero h0 (by omega)
    have h3 := log2_lt53 h0 h
    have hrl := rung_lt h
    rw [rung_is h0] at hrl ⊢
    obtain ⟨x, hx, k1, k2⟩ := kept_bounds h0 h
    unfold Format.nearest
    rw [if_neg hne]
    have hf : (double.fractionBits : Int) = 52 := rfl
    have hlast : max (-(k : Int) + ((m * 2 ^ k).log2 : Nat) - (double.fractionBits : Nat)) double.leastPlace = (m.log2 : Int) - 52 := by
      rw [log2_mul_pow m k h0, dbl_least, hf]
      omega
    simp only [hlast]
    have hkept : Toward.even.cut s ((m * 2 ^ k) <<< (-(k : Int) - ((m.log2 : Int) - 52)).toNat) (((m.log2 : Int) - 52) - -(k : Int)).toNat = m * 2 ^ (52 - m.log2) := by
      rcases Nat.lt_or_ge (52 - m.log2) k with c | c
      · have e1 : (-(k : Int) - ((m.log2 : Int) - 52)).toNat = 0 := by omega
        have e2 : (((m.log2 : Int) - 52) - -(k : Int)).toNat = k - (52 - m.log2) := by omega
        rw [e1, e2, Nat.shiftLeft_zero]
        have e3 : m * 2 ^ k = (m * 2 ^ (52 - m.log2)) * 2 ^ (k - (52 - m.log2)) := by
          rw [Nat.mul_assoc, ← Nat.pow_add, show 52 - m.log2 + (k - (52 - m.log2)) = k by omega]
        rw [e3, cut_exact _ _ _ (by rw [hx]; omega)]
      · have e1 : (-(k : Int) - ((m.log2 : Int) - 52)).toNat = (52 - m.log2) - k := by omega
        have e2 : (((m.log2 : Int) - 52) - -(k : Int)).toNat = 0 := by omega
        rw [e1, e2, cut_none, Nat.shiftLeft_eq, Nat.mul_assoc, ← Nat.pow_add, show k + (52 - m.log2 - k) = 52 - m.log2 by omega]
    rw [hkept]
    have hr : ((m.log2 : Int) - 52 - double.leastPlace).toNat = m.log2 + 1022 := by rw [dbl_least]; omega
    rw [hr, dbl_binade, dbl_inf, Nat.min_eq_left (Nat.le_of_lt hrl)]
theorem word_parts (s : Bool) (r : Nat) (h : r < 9223372036854775808) : (double.word s r / double.signWeight % 2 == 1) = s ∧ double.word s r % double.signWeight = r := by
  unfold Format.word
  rw [dbl_sign]
  cases s
  · rw [if_neg (by decide), Nat.div_eq_of_lt h, Nat.mod_eq_of_lt h]
    exact ⟨rfl, rfl⟩
  · rw [if_pos rfl]
    have e1 : (9223372036854775808 + r) / 9223372036854775808 = 1 := by omega
    have e2 : (9223372036854775808 + r) % 9223372036854775808 = r := by omega
    rw [e1, e2]
    exact ⟨rfl, rfl⟩
theorem read_rung (s : Bool) (m : Nat) (h : m < 9007199254740992) : ∃ k : Nat, k ≤ 1074 ∧ double.read (double.word s (rung m)) = .number s (m * 2 ^ k) (-(k : Int)) := by
  have hr := rung_lt h
  obtain ⟨p1, p2⟩ := word_parts s (rung m) (by omega)
  unfold Format.read
  simp only [p1, p2]
  by_cases h0 : m = 0
  · subst h0
    obtain ⟨k, hk⟩ : ∃ k : Nat, k = 1074 := ⟨_, rfl⟩
    refine ⟨k, Nat.le_of_eq hk, ?_⟩
    rw [if_pos (by rw [dbl_binade]; decide), dbl_least, Nat.zero_mul]
    subst hk
    rfl
  · obtain ⟨x, hx, k1, k2⟩ := kept_bounds h0 h
    have h3 := log2_lt53 h0 h
    have hrr := rung_is h0
    rw [hx] at hrr
    refine ⟨52 - m.log2, by omega, ?_⟩
    rw [if_neg (by rw [dbl_binade, hrr]; omega), if_pos (by rw [dbl_inf]; exact hr), dbl_binade, dbl_least, hx]
    have e1 : rung m / 4503599627370496 = m.log2 + 1023 := by rw [hrr]; omega
    have e2 : rung m % 4503599627370496 = x - 4503599627370496 := by rw [hrr]; omega
    rw [e1, e2, show 4503599627370496 + (x - 4503599627370496) = x by omega]
    rw [show (-1074 + ((m.log2 + 1023 - 1 : Nat) : Int)) = -((52 - m.log2 : Nat) : Int) by omega]
theorem write_is {d : Datum} {s : Bool} {n : Int} (h : Is d s n) (hn : n.natAbs < 9007199254740992) : double.write d = double.word s (rung n.natAbs) := by
  obtain ⟨k, hk, rfl, _⟩ := h
  exact nearest_whole s n.natAbs k hn
theorem fw_word (z : Bool) (n : Int) (hn : n.natAbs < 9007199254740992) : fw z n = double.word (if n = 0 then z else decide (n < 0)) (rung n.natAbs) := by
  have := nearest_whole (if n = 0 then z else decide (n < 0)) n.natAbs 0 hn
  rw [Nat.pow_zero, Nat.mul_one] at this
  exact this
theorem read_fw (z : Bool) (n : Int) (hn : n.natAbs < 9007199254740992) : ∃ s, Is (double.read (fw z n)) s n ∧ (n = 0 → s = z) := by
  rw [fw_word z n hn]
  obtain ⟨k, hk, e⟩ := read_rung (if n = 0 then z else decide (n < 0)) n.natAbs hn
  exact ⟨_, ⟨k, hk, e, fun h => by rw [if_neg h]⟩, fun h => by rw [if_pos h]⟩
theorem write_fw {d : Datum} {s : Bool} {n : Int} (h : Is d s n) (hn : n.natAbs < 9007199254740992) : double.write d = fw s n := by
  rw [write_is h hn, fw_word s n hn]
  obtain ⟨k, hk, rfl, hs⟩ := h
  by_cases e : n = 0
  · rw [if_pos e]
  · rw [if_neg e, ← hs e]
theorem signed_is (s : Bool) (n : Int) (j : Nat) (hs : n ≠ 0 → s = decide (n < 0)) : signed s n.natAbs j = n * 2 ^ j := by
  unfold signed
  rw [Nat.shiftLeft_eq]
  by_cases e : n = 0
  · subst e; simp
  · rw [hs e]
    by_cases h : n < 0
    · rw [if_pos (by simpa using h)]
      have : ((n.natAbs * 2 ^ j : Nat) : Int) = (n.natAbs : Int) * 2 ^ j := by rw [Int.natCast_mul, Int.natCast_pow]; rfl
      rw [this, Int.ofNat_natAbs_of_nonpos (by omega), Int.neg_mul, Int.neg_neg]
    · rw [if_neg (by simpa using h)]
      have : ((n.natAbs * 2 ^ j : Nat) : Int) = (n.natAbs : Int) * 2 ^ j := by rw [Int.natCast_mul, Int.natCast_pow]; rfl
      rw [this, Int.natAbs_of_nonneg (by omega)]
theorem pow_i (k : Nat) : (0 : Int) < 2 ^ k := Int.pow_pos (by decide)
theorem natAbs_mul_pow (n : Int) (k : Nat) : (n * 2 ^ k).natAbs = n.natAbs * 2 ^ k := by
  rw [Int.natAbs_mul, Int.natAbs_pow]
  rfl
theorem signed_scaled (s : Bool) (n : Int) (k j : Nat) (hs : n ≠ 0 → s = decide (n < 0)) : signed s (n.natAbs * 2 ^ k) j = n * 2 ^ (k + j) := by
  have e : signed s (n.natAbs * 2 ^ k) j = signed s n.natAbs (k + j) := by
    unfold signed
    rw [Nat.shiftLeft_eq, Nat.shiftLeft_eq, Nat.mul_assoc, ← Nat.pow_add]
  rw [e, signed_is s n _ hs]
theorem scaled_neg (n : Int) (k : Nat) : (n * 2 ^ k < 0) ↔ n < 0 := by
  have := pow_i k
  constructor
  · intro h
    rcases Int.lt_or_le n 0 with x | x
    · exact x
    · have := Int.mul_nonneg x (Int.le_of_lt this); omega
  · intro h
    exact Int.mul_neg_of_neg_of_pos h this
theorem scaled_zero (n : Int) (k : Nat) : (n * 2 ^ k = 0) ↔ n = 0 := by
  have := pow_i k
  rw [Int.mul_eq_zero]
  constructor
  · rintro (x | x)
    · exact x
    · omega
  · exact fun x => .inl x
/-- Sums. -/
theorem sum_is {d e : Datum} {s t : Bool} {m n : Int} (hd : Is d s m) (he : Is e t n) : ∃ r u, d.sum e = some r ∧ Is r u (m + n) ∧ (m + n = 0 → u = (s && t)) := by
  obtain ⟨k, hk, rfl, hs⟩ := hd
  obtain ⟨l, hl, rfl, ht⟩ := he
  have key : ∀ c : Nat, c = max k l → ∃ r u, (Datum.number s (m.natAbs * 2 ^ k) (-(k : Int))).sum (Datum.number t (n.natAbs * 2 ^ l) (-(l : Int))) = some r ∧ Is r u (m + n) ∧ (m + n = 0 → u = (s && t)) := fun c hc => by
    have hb : min (-(k : Int)) (-(l : Int)) = -(c : Int) := by omega
    have e1 : (-(k : Int) - -(c : Int)).toNat = c - k := by omega
    have e2 : (-(l : Int) - -(c : Int)).toNat = c - l := by omega
    unfold Datum.sum
    simp only [hb, e1, e2, signed_scaled s m k (c - k) hs, signed_scaled t n l (c - l) ht]
    rw [show k + (c - k) = c by omega, show l + (c - l) = c by omega, ← Int.add_mul]
    refine ⟨_, _, rfl, ⟨c, by omega, by rw [natAbs_mul_pow], ?_⟩, ?_⟩
    · intro h
      rw [if_neg (fun x => h ((scaled_zero _ _).1 x))]
      exact decide_eq_decide.2 (scaled_neg _ _)
    · intro h
      rw [if_pos ((scaled_zero _ _).2 h)]
  exact key _ rfl
theorem opposite_is {d : Datum} {s : Bool} {n : Int} (h : Is d s n) : Is d.opposite (!s) (-n) := by
  obtain ⟨k, hk, rfl, hs⟩ := h
  refine ⟨k, hk, by rw [Int.natAbs_neg]; rfl, fun h0 => ?_⟩
  have hn : n ≠ 0 := by omega
  rw [hs hn]
  by_cases h : n < 0
  · simp [h]; omega
  · simp [h]; omega
theorem product_is {d e : Datum} {s t : Bool} {m n : Int} (hd : Is d s m) (he : Is e t n) : ∃ r, d.product e = some r ∧ ∃ k : Nat, k ≤ 2148 ∧ r = .number (s ^^ t) ((m * n).natAbs * 2 ^ k) (-(k : Int)) ∧ (m * n ≠ 0 → (s ^^ t) = decide (m * n < 0)) := by
  obtain ⟨k, hk, rfl, hs⟩ := hd
  obtain ⟨l, hl, rfl, ht⟩ := he
  refine ⟨_, rfl, k + l, by omega, ?_, ?_⟩
  · have e1 : m.natAbs * 2 ^ k * (n.natAbs * 2 ^ l) = (m * n).natAbs * 2 ^ (k + l) := by
      rw [Int.natAbs_mul, Nat.pow_add]
      rw [Nat.mul_assoc, Nat.mul_assoc, Nat.mul_left_comm (2 ^ k)]
    rw [e1, show (-(k : Int) + -(l : Int)) = -((k + l : Nat) : Int) by omega]
  · intro h
    have h1 : m ≠ 0 := fun e => h (by rw [e, Int.zero_mul])
    have h2 : n ≠ 0 := fun e => h (by rw [e, Int.mul_zero])
    rw [hs h1, ht h2]
    rcases Int.lt_or_le m 0 with a | a <;> rcases Int.lt_or_le n 0 with b | b
    · have := Int.mul_pos_of_neg_of_neg a b
      simp [a, b]; omega
    · have := Int.mul_neg_of_neg_of_pos a (show 0 < n by omega)
      simp [a, this]; omega
    · have := Int.mul_neg_of_pos_of_neg (show 0 < m by omega) b
      simp [b, this]; omega
    · have := Int.mul_nonneg a b
      have c1 : ¬ m < 0 := by omega
      have c2 : ¬ n < 0 := by omega
      have c3 : ¬ m * n < 0 := by omega
      simp [c1, c2, c3]
end Go.Proofs.Ytgokjdlemfaagaa.Fl
