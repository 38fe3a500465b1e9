/- Texts pushed and popped at the ends of a list. Plain mathematics. -/
import Derived.Test.YteghokakjonblaaChEnd
namespace Go.Proofs.Yteghokakjonblaa
theorem front_0 (n : Nat) : front n 0 = 0 := by unfold front; rw [if_neg (by omega)]
theorem front_1 (n : Nat) : front n (-1) = (n : Int) - 1 := by unfold front; rw [if_pos (by omega)]; omega
theorem there_pop (n : Nat) (b : Bool) : there n (popAt b) = decide (0 < n) := by
  unfold there popAt
  cases b
  · rw [if_neg (by simp), front_1]
    by_cases h : 0 < n
    · rw [decide_eq_true h]; exact decide_eq_true ⟨by omega, by omega⟩
    · rw [decide_eq_false h]; exact decide_eq_false fun e => by omega
  · rw [if_pos rfl, front_0]
    by_cases h : 0 < n
    · rw [decide_eq_true h]; exact decide_eq_true ⟨by omega, by omega⟩
    · rw [decide_eq_false h]; exact decide_eq_false fun e => by omega
theorem pop_cons (x : ByteArray) (r : List ByteArray) : atOf (x :: r) (popAt true) = x ∧ remOf (x :: r) (popAt true) = r := by
  have t := there_pop (x :: r).length true
  rw [decide_eq_true (by simp)] at t
  unfold atOf remOf
  rw [if_pos t, if_pos t, show popAt true = 0 from rfl, front_0]
  exact ⟨rfl, rfl⟩
theorem pop_snoc (x : ByteArray) (r : List ByteArray) : atOf (r ++ [x]) (popAt false) = x ∧ remOf (r ++ [x]) (popAt false) = r := by
  have t := there_pop (r ++ [x]).length false
  rw [decide_eq_true (by simp)] at t
  unfold atOf remOf
  rw [if_pos t, if_pos t, show popAt false = -1 from rfl, front_1]
  have e : (((r ++ [x]).length : Int) - 1).toNat = r.length := by rw [List.length_append]; simp
  rw [e]
  constructor
  · simp
  · rw [List.eraseIdx_append_of_length_le (Nat.le_refl _), Nat.sub_self]; simp
theorem pop_nil (b : Bool) : atOf [] (popAt b) = ⟨#[]⟩ ∧ remOf [] (popAt b) = [] ∧ there 0 (popAt b) = false := by
  have t := there_pop 0 b
  rw [decide_eq_false (by omega)] at t
  unfold atOf remOf
  rw [show ([] : List ByteArray).length = 0 from rfl, t]
  exact ⟨rfl, rfl, rfl⟩
/-- The name of a number. -/
def nmT (i : Nat) : ByteArray := ⟨#[UInt8.ofNat (i % 256), UInt8.ofNat (i / 256)]⟩
/-- The names from a number on, up to another one. -/
def sq (a b : Nat) : List ByteArray := (List.range' a (b - a)).map nmT
theorem sq_len (a b : Nat) : (sq a b).length = b - a := by unfold sq; simp
theorem sq_snoc {a b : Nat} (h : a ≤ b) : sq a (b + 1) = sq a b ++ [nmT b] := by
  unfold sq
  rw [show b + 1 - a = (b - a) + 1 by omega, List.range'_concat]
  simp only [List.map_append, List.map_cons, List.map_nil, Nat.one_mul]
  rw [show a + (b - a) = b by omega]
theorem sq_cons {a b : Nat} (h : a < b) : sq a b = nmT a :: sq (a + 1) b := by
  unfold sq
  rw [show b - a = (b - (a + 1)) + 1 by omega, List.range'_succ]
  rfl
/-- What a row holds: the latest ahead, or behind. -/
def hold (f : Bool) (a b : Nat) : List ByteArray := if f = true then (sq a b).reverse else sq a b
theorem hold_len (f : Bool) (a b : Nat) : (hold f a b).length = b - a := by
  unfold hold
  cases f
  · rw [if_neg (by simp), sq_len]
  · rw [if_pos rfl, List.length_reverse, sq_len]
theorem hold_push (f : Bool) {a b : Nat} (h : a ≤ b) : (if f = true then nmT b :: hold f a b else hold f a b ++ [nmT b]) = hold f a (b + 1) := by
  unfold hold
  cases f
  · rw [if_neg (by simp), if_neg (by simp), if_neg (by simp), sq_snoc h]
  · rw [if_pos rfl, if_pos rfl, if_pos rfl, sq_snoc h, List.reverse_append]; rfl
theorem hold_other (f : Bool) {a b : Nat} (h : a < b) : atOf (hold f a b) (popAt (!f)) = nmT a ∧ remOf (hold f a b) (popAt (!f)) = hold f (a + 1) b ∧ there (hold f a b).length (popAt (!f)) = true := by
  have t := there_pop (hold f a b).length (!f)
  rw [decide_eq_true (by rw [hold_len]; omega)] at t
  refine ⟨?_, ?_, t⟩
  · unfold hold
    cases f
    · rw [if_neg (by simp), sq_cons h]; exact (pop_cons _ _).1
    · rw [if_pos rfl, sq_cons h, List.reverse_cons]; exact (pop_snoc _ _).1
  · unfold hold
    cases f
    · rw [if_neg (by simp), if_neg (by simp), sq_cons h]; exact (pop_cons _ _).2
    · rw [if_pos rfl, if_pos rfl, sq_cons h, List.reverse_cons]; exact (pop_snoc _ _).2
theorem hold_same (f : Bool) {a b : Nat} (h : a ≤ b) : atOf (hold f a (b + 1)) (popAt f) = nmT b ∧ remOf (hold f a (b + 1)) (popAt f) = hold f a b ∧ there (hold f a (b + 1)).length (popAt f) = true := by
  have t := there_pop (hold f a (b + 1)).length f
  rw [decide_eq_true (by rw [hold_len]; omega)] at t
  refine ⟨?_, ?_, t⟩
  · unfold hold
    cases f
    · rw [if_neg (by simp), sq_snoc h]; exact (pop_snoc _ _).1
    · rw [if_pos rfl, sq_snoc h, List.reverse_append]; exact (pop_cons _ _).1
  · unfold hold
    cases f
    · rw [if_neg (by simp), if_neg (by simp), sq_snoc h]; exact (pop_snoc _ _).2
    · rw [if_pos rfl, if_pos rfl, sq_snoc h, List.reverse_append]; exact (pop_cons _ _).2
theorem hold_none (f : Bool) (a : Nat) : hold f a a = [] := List.length_eq_zero_iff.1 (by rw [hold_len]; omega)
end Go.Proofs.Yteghokakjonblaa
