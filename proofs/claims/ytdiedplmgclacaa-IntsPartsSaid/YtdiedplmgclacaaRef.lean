/- The contracts of the document's own answers for package ints: they are those of ints' functions. -/
import Derived.Test.YtdiedplmgclacaaArith
import Derived.Lib.Hide
namespace Go.Proofs.Ytdiedplmgclacaa
open Go.RowKit
set_option linter.unusedVariables false

set_option maxHeartbeats 1000000 in
theorem radd_any (a b : Int) (wa : (Lit.int .i64 a).wf = true) (wb : (Lit.int .i64 b).wf = true) (w : World) :
    Calls Try.prog 8 #[.int .i64 a, .int .i64 b] w fun e w' => e = .returned (.tuple #[.int .i64 (addV a b), .bool (addB a b)]) ∧ w = w' := by
  have a1 := wf_lo wa
  have a2 := wf_hi wa
  have b1 := wf_lo wb
  have b2 := wf_hi wb
  go_enter Try.func8, Try.ntmps8
  go_wp2
  all_goals first
    | (have o : a + b < -9223372036854775808 ∨ 9223372036854775807 < a + b := by omega
       go_ret2
       exact ⟨tup2 (fitV_no o).symm (fitB_no o).symm, rfl⟩)
    | (have o : -9223372036854775808 ≤ a + b ∧ a + b ≤ 9223372036854775807 := by omega
       go_ret2
       exact ⟨tup2 (by first | exact (fitV_yes o).symm | (rw [addV, fitV_yes o]; exact wrap_in o)) (fitB_yes o).symm, rfl⟩)

set_option maxHeartbeats 1000000 in
theorem rsub_any (a b : Int) (wa : (Lit.int .i64 a).wf = true) (wb : (Lit.int .i64 b).wf = true) (w : World) :
    Calls Try.prog 10 #[.int .i64 a, .int .i64 b] w fun e w' => e = .returned (.tuple #[.int .i64 (subV a b), .bool (subB a b)]) ∧ w = w' := by
  have a1 := wf_lo wa
  have a2 := wf_hi wa
  have b1 := wf_lo wb
  have b2 := wf_hi wb
  go_enter Try.func10, Try.ntmps10
  go_wp2
  all_goals first
    | (have o : a - b < -9223372036854775808 ∨ 9223372036854775807 < a - b := by omega
       go_ret2
       exact ⟨tup2 (fitV_no o).symm (fitB_no o).symm, rfl⟩)
    | (have o : -9223372036854775808 ≤ a - b ∧ a - b ≤ 9223372036854775807 := by omega
       go_ret2
       exact ⟨tup2 (by first | exact (fitV_yes o).symm | (rw [subV, fitV_yes o]; exact wrap_in o)) (fitB_yes o).symm, rfl⟩)

theorem beq_ne {a b : Int} (h : (a == b) = false) : a ≠ b := by simpa using h
theorem beq_is {a b : Int} (h : (a == b) = true) : a = b := by simpa using h
set_option maxHeartbeats 1000000 in
theorem rmul_gen (a b : Int) (a1 : -9223372036854775808 ≤ a) (a2 : a ≤ 9223372036854775807) (b1 : -9223372036854775808 ≤ b) (b2 : b ≤ 9223372036854775807) (w : World)
    (h0 : ¬ b = 0) (k0 : (b == 0) = false) (j0 : (a == 0) = false) (h1 : Hid (b = -1 → a ≠ -9223372036854775808))
    (p q r s : Bool) (hA : (a == -9223372036854775808) = p) (hB : (b == -1) = q) (hC : (b == -9223372036854775808) = r) (hD : (a == -1) = s) (n1 : (p && q) = false) (n2 : (r && s) = false) :
    Calls Try.prog 12 #[.int .i64 a, .int .i64 b] w fun e w' => e = .returned (.tuple #[.int .i64 (mulV a b), .bool (mulB a b)]) ∧ w = w' := by
  cases p <;> cases q <;> cases r <;> cases s
  all_goals first
    | exact absurd n1 (by decide)
    | exact absurd n2 (by decide)
    | (exfalso; have x := beq_is hA; have y := beq_is hD; omega)
    | (exfalso; have x := beq_is hB; have y := beq_is hC; omega)
    | (clear n1 n2
       go_enter Try.func12, Try.ntmps12
       go_wp2
       · have h : (wrap64 ((wrap64 (a * b)).tdiv b) != a) = true := by assumption
         have k := mul_over h0 a1 a2 h
         go_ret2
         exact ⟨tup2 k.1 k.2, rfl⟩
       · have h : (wrap64 ((wrap64 (a * b)).tdiv b) != a) = false := by assumption
         have k := mul_told b1 b2 h0 a1 a2 h1 h
         go_ret2
         exact ⟨tup2 k.1 k.2, rfl⟩)

set_option maxHeartbeats 1000000 in
theorem rmul_any (a b : Int) (wa : (Lit.int .i64 a).wf = true) (wb : (Lit.int .i64 b).wf = true) (w : World) :
    Calls Try.prog 12 #[.int .i64 a, .int .i64 b] w fun e w' => e = .returned (.tuple #[.int .i64 (mulV a b), .bool (mulB a b)]) ∧ w = w' := by
  have a1 := wf_lo wa
  have a2 := wf_hi wa
  have b1 := wf_lo wb
  have b2 := wf_hi wb
  by_cases j0 : a = 0
  · subst j0
    go_enter Try.func12, Try.ntmps12
    go_wp2
    go_ret2
    exact ⟨tup2 (by rw [mulV, Int.zero_mul]; rfl) (by rw [mulB, Int.zero_mul]; rfl), rfl⟩
  · have j1 : (a == 0) = false := by simpa using j0
    by_cases h0 : b = 0
    · subst h0
      go_enter Try.func12, Try.ntmps12
      go_wp2
      go_ret2
      exact ⟨tup2 (by rw [mulV, Int.mul_zero]; rfl) (by rw [mulB, Int.mul_zero]; rfl), rfl⟩
    · have k0 : (b == 0) = false := by simpa using h0
      by_cases c1 : a = -9223372036854775808 ∧ b = -1
      · obtain ⟨rfl, rfl⟩ := c1
        go_enter Try.func12, Try.ntmps12
        go_wp2
        go_ret2
        exact ⟨tup2 (by decide) (by decide), rfl⟩
      · by_cases c2 : b = -9223372036854775808 ∧ a = -1
        · obtain ⟨rfl, rfl⟩ := c2
          go_enter Try.func12, Try.ntmps12
          go_wp2
          go_ret2
          exact ⟨tup2 (by decide) (by decide), rfl⟩
        · refine rmul_gen a b a1 a2 b1 b2 w h0 k0 j1 (fun e1 e2 => c1 ⟨e2, e1⟩) _ _ _ _ rfl rfl rfl rfl ?_ ?_
          · cases hA : (a == -9223372036854775808) <;> cases hB : (b == -1) <;> first | rfl | exact absurd ⟨beq_is hA, beq_is hB⟩ c1
          · cases hA : (b == -9223372036854775808) <;> cases hB : (a == -1) <;> first | rfl | exact absurd ⟨beq_is hA, beq_is hB⟩ c2

set_option maxHeartbeats 1000000 in
theorem rdiv_gen (a b : Int) (a1 : -9223372036854775808 ≤ a) (a2 : a ≤ 9223372036854775807) (b1 : -9223372036854775808 ≤ b) (b2 : b ≤ 9223372036854775807) (w : World)
    (h0 : ¬ b = 0) (k0 : (b == 0) = false) (h1 : Hid (b = -1 → a ≠ -9223372036854775808))
    (p q : Bool) (hA : (a == -9223372036854775808) = p) (hB : (b == -1) = q) (n1 : (p && q) = false) :
    Calls Try.prog 16 #[.int .i64 a, .int .i64 b] w fun e w' => e = .returned (.tuple #[.int .i64 (divV a b), .bool (divB a b)]) ∧ w = w' := by
  cases p <;> cases q
  all_goals first
    | exact absurd n1 (by decide)
    | (clear n1
       go_enter Try.func16, Try.ntmps16
       go_wp2
       · have z : a.tmod b = 0 := by assumption
         have k := div_even a1 a2 h0 h1 ((fdm (a := a) h0).1 z).1
         go_ret2
         exact ⟨tup2 k.1 k.2, rfl⟩
       · have h : (a.tmod b != 0) = true ∧ (!decide (a < 0) == decide (b < 0)) = true := by assumption
         have k := div_down a1 a2 h0 h1 h
         go_ret2
         exact ⟨tup2 k.1 k.2, rfl⟩
       · have z : ¬ a.tmod b = 0 := by assumption
         have h : (a.tmod b != 0) = false ∨ (!decide (a < 0) == decide (b < 0)) = false := by assumption
         have k := div_same a1 a2 h0 h1 z h
         go_ret2
         exact ⟨tup2 k.1 k.2, rfl⟩)

set_option maxHeartbeats 1000000 in
theorem rdiv_any (a b : Int) (wa : (Lit.int .i64 a).wf = true) (wb : (Lit.int .i64 b).wf = true) (w : World) :
    Calls Try.prog 16 #[.int .i64 a, .int .i64 b] w fun e w' => e = .returned (.tuple #[.int .i64 (divV a b), .bool (divB a b)]) ∧ w = w' := by
  have a1 := wf_lo wa
  have a2 := wf_hi wa
  have b1 := wf_lo wb
  have b2 := wf_hi wb
  by_cases h0 : b = 0
  · subst h0
    go_enter Try.func16, Try.ntmps16
    go_wp2
    go_ret2
    exact ⟨tup2 (by rfl) (by rfl), rfl⟩
  · have k0 : (b == 0) = false := by simpa using h0
    by_cases c1 : a = -9223372036854775808 ∧ b = -1
    · obtain ⟨rfl, rfl⟩ := c1
      go_enter Try.func16, Try.ntmps16
      go_wp2
      go_ret2
      exact ⟨tup2 (by decide) (by decide), rfl⟩
    · refine rdiv_gen a b a1 a2 b1 b2 w h0 k0 (fun e1 e2 => c1 ⟨e2, e1⟩) _ _ rfl rfl ?_
      cases hA : (a == -9223372036854775808) <;> cases hB : (b == -1) <;> first | rfl | exact absurd ⟨beq_is hA, beq_is hB⟩ c1

set_option maxHeartbeats 1000000 in
theorem rmod_any (a b : Int) (wa : (Lit.int .i64 a).wf = true) (wb : (Lit.int .i64 b).wf = true) (w : World) :
    Calls Try.prog 17 #[.int .i64 a, .int .i64 b] w fun e w' => e = .returned (.tuple #[.int .i64 (modV a b), .bool (modB b)]) ∧ w = w' := by
  have a1 := wf_lo wa
  have a2 := wf_hi wa
  have b1 := wf_lo wb
  have b2 := wf_hi wb
  by_cases h0 : b = 0
  · subst h0
    go_enter Try.func17, Try.ntmps17
    go_wp2
    go_ret2
    exact ⟨tup2 (by rfl) (by rfl), rfl⟩
  · have k0 : (b == 0) = false := by simpa using h0
    by_cases h1 : b = -1
    · have k := mod_even h0 (by rw [h1]; exact tmod_m1 a)
      subst h1
      go_enter Try.func17, Try.ntmps17
      go_wp2
      go_ret2
      exact ⟨tup2 k.1 k.2, rfl⟩
    · have k1 : (b == -1) = false := by simpa using h1
      go_enter Try.func17, Try.ntmps17
      go_wp2
      · have z : a.tmod b = 0 := by assumption
        have k := mod_even h0 z
        go_ret2
        exact ⟨tup2 k.1 k.2, rfl⟩
      · have h : (a.tmod b != 0) = true ∧ (!decide (a.tmod b < 0) == decide (b < 0)) = true := by assumption
        have k := mod_up b1 b2 h0 h
        go_ret2
        exact ⟨tup2 k.1 k.2, rfl⟩
      · have z : ¬ a.tmod b = 0 := by assumption
        have h : (a.tmod b != 0) = false ∨ (!decide (a.tmod b < 0) == decide (b < 0)) = false := by assumption
        have k := mod_same h0 z h
        go_ret2
        exact ⟨tup2 k.1 k.2, rfl⟩

end Go.Proofs.Ytdiedplmgclacaa
