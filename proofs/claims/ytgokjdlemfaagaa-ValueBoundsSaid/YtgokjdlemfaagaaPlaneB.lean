/- Points of whole numbers, turned and multiplied, in plain words; their values. -/
import Derived.Test.YtgokjdlemfaagaaFlp
import Derived.Test.YtgokjdlemfaagaaRows
import Derived.WalkKit
import Derived.WalkSpells
import Derived.WalkLawsBesides
import Derived.Lib.Hide
namespace Go.Proofs.Ytgokjdlemfaagaa
open Go.RowKit
set_option linter.unusedVariables false
theorem below_and {w a b : World} (h : Below w.heap.size w a) (k : Below a.heap.size a b) : Below w.heap.size w b := h.trans (k.mono h.size)
/-- The point of two whole numbers. -/
def Pv (m n : Int) : Value := .complex .f64 (Fl.fw false m) (Fl.fw false n)
def In (m n : Int) : Prop := m.natAbs ≤ 1048576 ∧ n.natAbs ≤ 1048576
instance (m n : Int) : Decidable (In m n) := inferInstanceAs (Decidable (_ ∧ _))
def rot : Nat → Int → Int → Int × Int
  | 0, m, n => (m, n)
  | k + 1, m, n => rot k (-n) m
/-- Quarter turns. -/
def turned (k m n : Int) : Int × Int := rot (k % 4).toNat m n
theorem four (k : Int) : (k % 4).toNat = 0 ∨ (k % 4).toNat = 1 ∨ (k % 4).toNat = 2 ∨ (k % 4).toNat = 3 := by omega
theorem turned_in (k m n : Int) (h : In m n) : In (turned k m n).1 (turned k m n).2 := by
  unfold turned In at *
  rcases four k with e | e | e | e <;> rw [e] <;> simp only [rot] <;> omega
theorem turned_norm (k m n : Int) : (turned k m n).1 * (turned k m n).1 + (turned k m n).2 * (turned k m n).2 = m * m + n * n := by
  unfold turned
  rcases four k with e | e | e | e <;> rw [e] <;> simp only [rot, Int.neg_mul_neg] <;> omega
theorem turned_turned (j k m n : Int) : turned k (turned j m n).1 (turned j m n).2 = turned (j + k) m n := by
  unfold turned
  rcases four j with e | e | e | e <;> rcases four k with f | f | f | f <;> rw [e, f]
  · rw [show ((j + k) % 4).toNat = 0 by omega]; rfl
  · rw [show ((j + k) % 4).toNat = 1 by omega]; rfl
  · rw [show ((j + k) % 4).toNat = 2 by omega]; rfl
  · rw [show ((j + k) % 4).toNat = 3 by omega]; rfl
  · rw [show ((j + k) % 4).toNat = 1 by omega]; rfl
  · rw [show ((j + k) % 4).toNat = 2 by omega]; rfl
  · rw [show ((j + k) % 4).toNat = 3 by omega]; rfl
  · rw [show ((j + k) % 4).toNat = 0 by omega]; simp [rot]
  · rw [show ((j + k) % 4).toNat = 2 by omega]; rfl
  · rw [show ((j + k) % 4).toNat = 3 by omega]; rfl
  · rw [show ((j + k) % 4).toNat = 0 by omega]; simp [rot]
  · rw [show ((j + k) % 4).toNat = 1 by omega]; simp [rot]
  · rw [show ((j + k) % 4).toNat = 3 by omega]; rfl
  · rw [show ((j + k) % 4).toNat = 0 by omega]; simp [rot]
  · rw [show ((j + k) % 4).toNat = 1 by omega]; simp [rot]
  · rw [show ((j + k) % 4).toNat = 2 by omega]; simp [rot]
theorem turned_mod (j k m n : Int) (h : j % 4 = k % 4) : turned j m n = turned k m n := by unfold turned; rw [h]
theorem turned_add (k m n u v : Int) : turned k (m + u) (n + v) = ((turned k m n).1 + (turned k u v).1, (turned k m n).2 + (turned k u v).2) := by
  unfold turned
  rcases four k with e | e | e | e <;> rw [e] <;> simp only [rot] <;> refine Prod.ext ?_ ?_ <;> simp only <;> omega
/-- The product of two points. -/
def pm (a b : Int × Int) : Int × Int := (a.1 * b.1 - a.2 * b.2, a.1 * b.2 + a.2 * b.1)
theorem turned_mul (k m n u v : Int) : turned k (pm (m, n) (u, v)).1 (pm (m, n) (u, v)).2 = pm (turned k m n) (u, v) := by
  unfold turned pm
  rcases four k with e | e | e | e <;> rw [e] <;> simp only [rot] <;> refine Prod.ext ?_ ?_ <;> simp only [Int.neg_mul] <;> omega
theorem mul_norm (m n u v : Int) : (pm (m, n) (u, v)).1 * (pm (m, n) (u, v)).1 + (pm (m, n) (u, v)).2 * (pm (m, n) (u, v)).2 = (m * m + n * n) * (u * u + v * v) := by
  unfold pm
  simp only [Int.sub_mul, Int.mul_sub, Int.add_mul, Int.mul_add]
  have c1 : m * u * (n * v) = m * v * (n * u) := by
    rw [Int.mul_assoc, Int.mul_assoc, Int.mul_left_comm u, Int.mul_left_comm v]
    congr 2
    exact Int.mul_comm _ _
  have c2 : n * v * (m * u) = n * u * (m * v) := by
    rw [Int.mul_comm (n * v), Int.mul_comm (n * u)]; exact c1
  have d1 : m * u * (m * u) = m * m * (u * u) := by rw [Int.mul_assoc, Int.mul_assoc, Int.mul_left_comm u]
  have d2 : n * v * (n * v) = n * n * (v * v) := by rw [Int.mul_assoc, Int.mul_assoc, Int.mul_left_comm v]
  have d3 : m * v * (m * v) = m * m * (v * v) := by rw [Int.mul_assoc, Int.mul_assoc, Int.mul_left_comm v]
  have d4 : n * u * (n * u) = n * n * (u * u) := by rw [Int.mul_assoc, Int.mul_assoc, Int.mul_left_comm u]
  omega
theorem In.lt {m n : Int} (h : In m n) : m.natAbs < 9007199254740992 ∧ n.natAbs < 9007199254740992 := ⟨Nat.lt_of_le_of_lt h.1 (by decide), Nat.lt_of_le_of_lt h.2 (by decide)⟩
theorem fw00 : Fl.fw false 0 = 0 := by decide
theorem run_eqG (W : World) (op : BinOp) (t : TypeId) (x y : Operand) (m n : Int) (v : Value) : (eqGuard op t x y (Pv m n) v).run Try.prog W = .ok () W := by
  unfold Pv eqGuard
  split <;> rfl
section
variable (w : World) (t : TypeId)
theorem run_zero_add {m n : Int} (h : In m n) : (binOp .add t (Pv m n) (.complex .f64 0 0)).run Try.prog w = .ok (Pv m n) w := by
  have h1 := Fl.add_fw false false m 0 h.lt.1 (by decide) (by rw [Int.add_zero]; exact h.lt.1)
  have h2 := Fl.add_fw false false n 0 h.lt.2 (by decide) (by rw [Int.add_zero]; exact h.lt.2)
  rw [Int.add_zero, fw00] at h1 h2
  have e : ∀ k : Int, (Fl.sg false k && Fl.sg false 0) = false := fun k => by simp [Fl.sg]
  rw [e] at h1 h2
  exact run_complex_sum w .add (.inl rfl) t .f64 _ _ 0 0 _ _ (by unfold cSumBits; rw [h1, h2]; rfl)
theorem run_same {m n u v : Int} (h : In m n) (h' : In u v) : (binOp .neq t (Pv m n) (Pv u v)).run Try.prog w = .ok (.bool (!decide (m = u ∧ n = v))) w := by
  have o1 : FloatKind.f64.format.order (Fl.fw false m) (Fl.fw false u) = some (compare m u) := Fl.order_fw _ _ _ _ h.lt.1 h'.lt.1
  have o2 : FloatKind.f64.format.order (Fl.fw false n) (Fl.fw false v) = some (compare n v) := Fl.order_fw _ _ _ _ h.lt.2 h'.lt.2
  have c : ∀ a b : Int, (some (compare a b) == some Ordering.eq) = decide (a = b) := fun a b => by
    rcases Int.lt_trichotomy a b with k | k | k
    · rw [Fl.cmp_lt k, decide_eq_false (by omega)]; rfl
    · subst k; rw [Fl.cmp_eq, decide_eq_true rfl]; rfl
    · rw [Fl.cmp_gt k, decide_eq_false (by omega)]; rfl
  have := run_neq_complex w t .f64 (Fl.fw false m) (Fl.fw false n) (Fl.fw false u) (Fl.fw false v) (P := Try.prog)
  rw [o1, o2, c, c] at this
  rw [Bool.decide_and]
  exact this
theorem run_equal {m n u v : Int} (h : In m n) (h' : In u v) : (binOp .eql t (Pv m n) (Pv u v)).run Try.prog w = .ok (.bool (decide (m = u ∧ n = v))) w := by
  have o1 : FloatKind.f64.format.order (Fl.fw false m) (Fl.fw false u) = some (compare m u) := Fl.order_fw _ _ _ _ h.lt.1 h'.lt.1
  have o2 : FloatKind.f64.format.order (Fl.fw false n) (Fl.fw false v) = some (compare n v) := Fl.order_fw _ _ _ _ h.lt.2 h'.lt.2
  have c : ∀ a b : Int, (some (compare a b) == some Ordering.eq) = decide (a = b) := fun a b => by
    rcases Int.lt_trichotomy a b with k | k | k
    · rw [Fl.cmp_lt k, decide_eq_false (by omega)]; rfl
    · subst k; rw [Fl.cmp_eq, decide_eq_true rfl]; rfl
    · rw [Fl.cmp_gt k, decide_eq_false (by omega)]; rfl
  have := run_eql_complex w t .f64 (Fl.fw false m) (Fl.fw false n) (Fl.fw false u) (Fl.fw false v) (P := Try.prog)
  rw [o1, o2, c, c] at this
  rw [Bool.decide_and]
  exact this
end
end Go.Proofs.Ytgokjdlemfaagaa
