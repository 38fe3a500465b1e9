/- Package table: the calls that only look: Len, Slots, Moving, Work, at a table and at none. -/
import Derived.Test.YtedpanfdkdbblaaTbOk
namespace Go.Proofs.Ytedpanfdkdbblaa
open Go.RowKit
set_option linter.unusedVariables false
theorem below_cells {w w' : World} {q : Nat} {T : Tb} (h : Head w q T) (hb : Below w.heap.size w w') : Head w' q T := h.turn (Turn.of_below (D := fun _ => False) hb) fun _ e => e
theorem moving_any (w : World) (q : Nat) (T : Tb) (h : Head w q T) : Calls Try.prog 21 #[.pointer (some ⟨q, 0, none⟩)] w fun e w' => e = .returned (.bool T.two.isSome) ∧ w' = w := by
  have q1 := run_neq_some
  have q0 := run_neq_none
  have c1 := h.second
  obtain ⟨o, ho⟩ : ∃ o, T.two = o := ⟨_, rfl⟩
  rw [ho] at c1 ⊢
  clear h ho
  rcases o with _ | ⟨B, cs⟩
  · replace c1 : w.cell? ⟨q, 1, none⟩ = some (.slice none 0 0) := c1
    go_enter Try.func21, Try.ntmps21
    go_wp2_with fail
    go_ret
    exact ⟨rfl, rfl⟩
  · replace c1 : w.cell? ⟨q, 1, none⟩ = some (.slice (some ⟨B, 0, none⟩) cs.length cs.length) := c1
    go_enter Try.func21, Try.ntmps21
    go_wp2_with fail
    go_ret
    exact ⟨rfl, rfl⟩
theorem moving_nil (w : World) : Calls Try.prog 21 #[.pointer none] w fun e w' => e = .returned (.bool false) ∧ w' = w := by
  go_enter Try.func21, Try.ntmps21
  go_wp2_with fail
  go_ret
  exact ⟨rfl, rfl⟩
theorem len_any (w : World) (q : Nat) (T : Tb) (h : Head w q T) : Calls Try.prog 10 #[.pointer (some ⟨q, 0, none⟩)] w fun e w' => e = .returned (.int .i64 (T.count : Int)) ∧ w' = w := by
  have c1 := h.count
  clear h
  go_enter Try.func10, Try.ntmps10
  go_wp2_with fail
  go_ret
  exact ⟨rfl, rfl⟩
theorem len_nil (w : World) : Calls Try.prog 10 #[.pointer none] w fun e w' => e = .returned (.int .i64 0) ∧ w' = w := by
  go_enter Try.func10, Try.ntmps10
  go_wp2_with fail
  go_ret
  exact ⟨rfl, rfl⟩
theorem work_any (w : World) (q : Nat) (T : Tb) (h : Head w q T) : Calls Try.prog 12 #[.pointer (some ⟨q, 0, none⟩)] w fun e w' => e = .returned (.int .i64 (T.work : Int)) ∧ w' = w := by
  have c1 := h.work
  clear h
  go_enter Try.func12, Try.ntmps12
  go_wp2_with fail
  go_ret
  exact ⟨rfl, rfl⟩
theorem work_nil (w : World) : Calls Try.prog 12 #[.pointer none] w fun e w' => e = .returned (.int .i64 0) ∧ w' = w := by
  go_enter Try.func12, Try.ntmps12
  go_wp2_with fail
  go_ret
  exact ⟨rfl, rfl⟩
/-- How many slots the second array has. -/
def size2 : Option (Nat × List (List Nd)) → Nat
  | none => 0
  | some (_, cs) => cs.length
theorem slots_any (w : World) (q : Nat) (T : Tb) (h : Head w q T) (f : Fits T) : Calls Try.prog 11 #[.pointer (some ⟨q, 0, none⟩)] w fun e w' => e = .returned (.int .i64 ((T.c.length + size2 T.two : Nat) : Int)) ∧ Below w.heap.size w w' := by
  have c0 := h.first
  have c1 := h.second
  have k9 : (T.c.length : Int) ≤ 1048576 := by have := f.k9; omega
  have k0 : (0 : Int) ≤ (T.c.length : Int) := by omega
  obtain ⟨k, hk⟩ : ∃ k, T.c.length = k := ⟨_, rfl⟩
  have j9 : size2 T.two ≤ 1048576 := by
    rcases e : T.two with _ | ⟨B, cs⟩
    · exact Nat.zero_le _
    · exact f.j9 B cs e
  obtain ⟨j, hj⟩ : ∃ j, size2 T.two = j := ⟨_, rfl⟩
  obtain ⟨A, hA⟩ : ∃ A, arrV T.two = .slice A j j := by
    rw [← hj]
    rcases T.two with _ | ⟨B, cs⟩
    · exact ⟨_, rfl⟩
    · exact ⟨_, rfl⟩
  rw [hA] at c1
  rw [hj] at j9 ⊢
  rw [hk] at c0 k0 k9 ⊢
  have j1 : (j : Int) ≤ 1048576 := by omega
  have j0 : (0 : Int) ≤ (j : Int) := by omega
  clear h f hk hj hA j9
  go_enter Try.func11, Try.ntmps11
  go_wp2_with fail
  go_region
  go_wp2_with fail
  go_ret
  exact ⟨by first | rfl | (simp), (Below.refl _ w).drew⟩
theorem slots_nil (w : World) : Calls Try.prog 11 #[.pointer none] w fun e w' => e = .returned (.int .i64 0) ∧ w' = w := by
  go_enter Try.func11, Try.ntmps11
  go_wp2_with fail
  go_ret
  exact ⟨rfl, rfl⟩
end Go.Proofs.Ytedpanfdkdbblaa
