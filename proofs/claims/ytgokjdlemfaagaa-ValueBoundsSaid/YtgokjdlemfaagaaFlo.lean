/- The operations of doubles at whole numbers: sums, products, order, signs, what they are as integers; every word that is a whole number. Plain mathematics: no program is named. -/
import Derived.Test.YtgokjdlemfaagaaFl
namespace Go.Proofs.Ytgokjdlemfaagaa.Fl
open Ieee
set_option linter.unusedVariables false

/-- The sign of a whole number, a zero's being z. -/
def sg (z : Bool) (n : Int) : Bool := if n = 0 then z else decide (n < 0)
theorem sg_of {s z : Bool} {n : Int} (h : n ≠ 0 → s = decide (n < 0)) (h0 : n = 0 → s = z) : s = sg z n := by
  unfold sg
  by_cases e : n = 0
  · rw [if_pos e]; exact h0 e
  · rw [if_neg e]; exact h e
theorem read_fw' (z : Bool) (n : Int) (hn : n.natAbs < 9007199254740992) : Is (double.read (fw z n)) (sg z n) n := by
  obtain ⟨s, hs, h0⟩ := read_fw z n hn
  have : s = sg z n := sg_of (by obtain ⟨k, _, _, q⟩ := hs; exact q) h0
  rw [← this]
  exact hs
theorem fw_sg (z : Bool) (n : Int) : fw (sg z n) n = fw z n := by
  unfold fw sg
  by_cases e : n = 0
  · simp [e]
  · simp [e]
theorem add_fw (z y : Bool) (m n : Int) (hm : m.natAbs < 9007199254740992) (hn : n.natAbs < 9007199254740992) (h : (m + n).natAbs < 9007199254740992) :
    floatBits .add .f64 (fw z m) (fw y n) = some (fw (sg z m && sg y n) (m + n)) := by
  obtain ⟨r, u, hr, hu, h0⟩ := sum_is (read_fw' z m hm) (read_fw' y n hn)
  show (((double.read (fw z m)).sum (double.read (fw y n))).map double.write) = _
  rw [hr, Option.map_some, write_fw hu h]
  congr 1
  unfold fw
  by_cases e : m + n = 0
  · rw [if_pos e, if_pos e, h0 e]
  · rw [if_neg e, if_neg e]
theorem sub_fw (z y : Bool) (m n : Int) (hm : m.natAbs < 9007199254740992) (hn : n.natAbs < 9007199254740992) (h : (m - n).natAbs < 9007199254740992) :
    floatBits .sub .f64 (fw z m) (fw y n) = some (fw (sg z m && !sg y n) (m - n)) := by
  obtain ⟨r, u, hr, hu, h0⟩ := sum_is (read_fw' z m hm) (opposite_is (read_fw' y n hn))
  rw [← Int.sub_eq_add_neg] at hu h0
  show (((double.read (fw z m)).sum (double.read (fw y n)).opposite).map double.write) = _
  rw [hr, Option.map_some, write_fw hu h]
  congr 1
  unfold fw
  by_cases e : m - n = 0
  · rw [if_pos e, if_pos e, h0 e]
  · rw [if_neg e, if_neg e]
theorem mul_fw (z y : Bool) (m n : Int) (hm : m.natAbs < 9007199254740992) (hn : n.natAbs < 9007199254740992) (h : (m * n).natAbs < 9007199254740992) :
    floatBits .mul .f64 (fw z m) (fw y n) = some (fw (sg z m ^^ sg y n) (m * n)) := by
  obtain ⟨r, hr, k, hk, rfl, hs⟩ := product_is (read_fw' z m hm) (read_fw' y n hn)
  show (((double.read (fw z m)).product (double.read (fw y n))).map double.write) = _
  rw [hr, Option.map_some]
  congr 1
  show double.nearest _ _ _ = _
  rw [nearest_whole _ _ _ h, fw_word _ _ h]
  by_cases e : m * n = 0
  · rw [if_pos e]
  · rw [if_neg e, hs e]
theorem cmp_lt {m n : Int} (h : m < n) : compare m n = .lt := by
  show compareOfLessAndEq m n = .lt
  unfold compareOfLessAndEq
  rw [if_pos h]
theorem cmp_gt {m n : Int} (h : n < m) : compare m n = .gt := by
  show compareOfLessAndEq m n = .gt
  unfold compareOfLessAndEq
  rw [if_neg (by omega), if_neg (by omega)]
theorem cmp_eq (n : Int) : compare n n = .eq := by
  show compareOfLessAndEq n n = .eq
  unfold compareOfLessAndEq
  rw [if_neg (by omega), if_pos rfl]
theorem compare_scaled (m n : Int) (c : Nat) : compare (m * 2 ^ c) (n * 2 ^ c) = compare m n := by
  have hp := pow_i c
  rcases Int.lt_trichotomy m n with h | h | h
  · rw [cmp_lt h, cmp_lt (Int.mul_lt_mul_of_pos_right h hp)]
  · subst h; rw [cmp_eq, cmp_eq]
  · rw [cmp_gt h, cmp_gt (Int.mul_lt_mul_of_pos_right h hp)]
theorem order_is {d e : Datum} {s t : Bool} {m n : Int} (hd : Is d s m) (he : Is e t n) : d.order e = some (compare m n) := by
  obtain ⟨k, hk, rfl, hs⟩ := hd
  obtain ⟨l, hl, rfl, ht⟩ := he
  have hb : min (-(k : Int)) (-(l : Int)) = -((max k l : Nat) : Int) := by omega
  unfold Datum.order
  simp only [hb]
  generalize hc : max k l = c
  have e1 : (-(k : Int) - -(c : Int)).toNat = c - k := by omega
  have e2 : (-(l : Int) - -(c : Int)).toNat = c - l := by omega
  rw [e1, e2, signed_scaled s m k (c - k) hs, signed_scaled t n l (c - l) ht, show k + (c - k) = c by omega, show l + (c - l) = c by omega, compare_scaled]
theorem order_fw (z y : Bool) (m n : Int) (hm : m.natAbs < 9007199254740992) (hn : n.natAbs < 9007199254740992) : double.order (fw z m) (fw y n) = some (compare m n) := order_is (read_fw' z m hm) (read_fw' y n hn)
theorem cut_zero (s : Bool) (n d : Nat) : Toward.zero.cut s (n * 2 ^ d) d = n := by
  by_cases h : n = 0
  · subst h
    unfold Toward.cut
    simp
  · have hl : min d ((n * 2 ^ d).log2 + 2) = d := by
      rw [log2_mul_pow n d h]; omega
    have hp := Nat.two_pow_pos d
    unfold Toward.cut
    simp only [hl, Nat.one_shiftLeft, Nat.mul_div_cancel _ hp]
    simp
theorem toInt_is {d : Datum} {s : Bool} {n : Int} (h : Is d s n) : d.toInt .zero = some n := by
  obtain ⟨k, hk, rfl, hs⟩ := h
  have e1 : (-(k : Int)).toNat = 0 := by omega
  have e2 : (-(-(k : Int))).toNat = k := by omega
  unfold Datum.toInt Datum.integral
  simp only [e1, e2, Nat.shiftLeft_zero, cut_zero]
  have := signed_is s n 0 hs
  rw [this]
  simp
theorem int_fw (z : Bool) (n : Int) (hn : n.natAbs < 9007199254740992) : floatToIntVal .f64 (fw z n) .i64 = some n := by
  have h : (FloatKind.f64.decode (fw z n)).toInt .zero = some n := toInt_is (read_fw' z n hn)
  unfold floatToIntVal
  rw [h]
  have h1 : IntKind.i64.min = -9223372036854775808 := by decide
  have h2 : IntKind.i64.max = 9223372036854775807 := by decide
  simp only [h1, h2]
  rw [if_pos (by omega)]
theorem ofInt_fw (n : Int) : floatOfInt .f64 n = fw false n := by
  unfold floatOfInt FloatKind.nearest FloatKind.encode fw
  by_cases e : n = 0
  · subst e; rfl
  · rw [if_neg e]; rfl
theorem xor_top (r : Nat) (h : r < 9223372036854775808) : r ^^^ 9223372036854775808 = 9223372036854775808 + r ∧ (9223372036854775808 + r) ^^^ 9223372036854775808 = r := by
  have h63 : r.testBit 63 = false := Nat.testBit_lt_two_pow h
  have e : 9223372036854775808 + r = 9223372036854775808 ||| r := by
    have := Nat.two_pow_add_eq_or_of_lt (i := 63) (b := r) h 1
    simpa using this
  have tb : ∀ i, (9223372036854775808 : Nat).testBit i = decide (63 = i) := fun i => by
    have := Nat.testBit_two_pow (n := 63) (m := i)
    simpa using this
  constructor
  · rw [e]
    apply Nat.eq_of_testBit_eq
    intro i
    rw [Nat.testBit_xor, Nat.testBit_or, tb]
    by_cases c : 63 = i
    · subst c; simp [h63]
    · simp [c]
  · rw [e]
    apply Nat.eq_of_testBit_eq
    intro i
    rw [Nat.testBit_xor, Nat.testBit_or, tb]
    by_cases c : 63 = i
    · subst c; simp [h63]
    · simp [c]
theorem neg_word (s : Bool) (r : Nat) (h : r < 9223372036854775808) : Op.negFloat .f64 (double.word s r) = double.word (!s) r := by
  obtain ⟨a, b⟩ := xor_top r h
  unfold Op.negFloat Format.word
  rw [show 2 ^ (FloatKind.f64.format.exponentBits + FloatKind.f64.format.fractionBits) = 9223372036854775808 by decide, dbl_sign]
  cases s
  · simpa using a
  · simpa using b
theorem neg_fw (z : Bool) (n : Int) (hn : n.natAbs < 9007199254740992) : Op.negFloat .f64 (fw z n) = fw (!z) (-n) := by
  have hr := rung_lt hn
  rw [fw_word z n hn, fw_word (!z) (-n) (by rw [Int.natAbs_neg]; exact hn), neg_word _ _ (by omega), Int.natAbs_neg]
  congr 1
  by_cases e : n = 0
  · subst e; simp
  · have e' : ¬ (-n = 0) := by omega
    rw [if_neg e, if_neg e']
    by_cases c : n < 0
    · have c' : ¬ (-n < 0) := by omega
      simp [c]; omega
    · simp [c]; omega
end Go.Proofs.Ytgokjdlemfaagaa.Fl
