/- The document's own answers: a place of a row, a range of places. -/
import Derived.Test.YteghokakjonblaaChSlice
namespace Go.Proofs.Yteghokakjonblaa
open Go.RowKit Go.Lib
set_option linter.unusedVariables false
set_option maxHeartbeats 1000000 in
theorem rplace_any (w : World) (n : Nat) (hn : n ≤ 1048576) (i : Int) (i0 : -9223372036854775808 ≤ i) (i1 : i ≤ 9223372036854775807) :
    Calls Try.prog 23 #[.int .i64 (n : Int), .int .i64 i] w fun e w' => e = .returned (.tuple #[.int .i64 (front n i), .bool (there n i)]) ∧ w' = w := by
  have n0 : (0 : Int) ≤ (n : Int) := by omega
  have n9 : (n : Int) ≤ 1048576 := by omega
  by_cases h : i < 0
  · obtain ⟨f, ef⟩ : ∃ f, f = i + (n : Int) := ⟨_, rfl⟩
    have wf : IntKind.i64.wrap (i + (n : Int)) = f := by rw [IntKind.wrap_i64, ef]; omega
    have fr : front n i = f := by unfold front; rw [if_pos h, ef]; omega
    unfold there
    rw [fr]
    clear ef fr
    by_cases f0 : 0 ≤ f
    · by_cases f1 : f < (n : Int)
      · rw [decide_eq_true ⟨f0, f1⟩]
        go_enter Try.func23, Try.ntmps23
        go_wp2_with fail
        go_ret2
        exact ⟨by simp [*], rfl⟩
      · have f1' : (n : Int) ≤ f := by omega
        rw [decide_eq_false (fun e => f1 e.2)]
        go_enter Try.func23, Try.ntmps23
        go_wp2_with fail
        go_ret2
        exact ⟨by simp [*], rfl⟩
    · have f0' : f < 0 := by omega
      rw [decide_eq_false (fun e => f0 e.1)]
      go_enter Try.func23, Try.ntmps23
      go_wp2_with fail
      go_ret2
      exact ⟨by simp [*], rfl⟩
  · have h' : 0 ≤ i := by omega
    have fr : front n i = i := by unfold front; rw [if_neg h]
    unfold there
    rw [fr]
    clear fr
    by_cases f1 : i < (n : Int)
    · rw [decide_eq_true ⟨h', f1⟩]
      go_enter Try.func23, Try.ntmps23
      go_wp2_with fail
      go_ret2
      exact ⟨by simp [*], rfl⟩
    · have f1' : (n : Int) ≤ i := by omega
      rw [decide_eq_false (fun e => f1 e.2)]
      go_enter Try.func23, Try.ntmps23
      go_wp2_with fail
      go_ret2
      exact ⟨by simp [*], rfl⟩
/-- The range that is cut: from, to (not with it). -/
def span (n : Nat) (i j : Int) : Nat × Nat :=
  if min (front n j) ((n : Int) - 1) < max (front n i) 0 then (0, 0) else ((max (front n i) 0).toNat, (min (front n j) ((n : Int) - 1)).toNat + 1)
theorem span_le (n : Nat) (i j : Int) : (span n i j).1 ≤ (span n i j).2 ∧ (span n i j).2 ≤ n := by
  unfold span
  split
  · exact ⟨Nat.le_refl _, Nat.zero_le _⟩
  · refine ⟨?_, ?_⟩
    · show (max (front n i) 0).toNat ≤ (min (front n j) ((n : Int) - 1)).toNat + 1
      omega
    · show (min (front n j) ((n : Int) - 1)).toNat + 1 ≤ n
      omega
theorem cut_span (l : List ByteArray) (i j : Int) : cut l i j = (l.drop (span l.length i j).1).take ((span l.length i j).2 - (span l.length i j).1) := by
  unfold cut span
  split
  · simp
  · show _ = List.take ((min (front l.length j) ((l.length : Int) - 1)).toNat + 1 - (max (front l.length i) 0).toNat) (l.drop (max (front l.length i) 0).toNat)
    congr 1
    omega
theorem span_is (n : Nat) (i j a b : Int) (ha : max (front n i) 0 = a) (hb : min (front n j) ((n : Int) - 1) = b) : ((span n i j).1 : Int) = (if b < a then 0 else a) ∧ ((span n i j).2 : Int) = (if b < a then 0 else b + 1) := by
  unfold span
  rw [ha, hb]
  split
  · exact ⟨rfl, rfl⟩
  · refine ⟨?_, ?_⟩
    · show ((a.toNat : Nat) : Int) = a
      omega
    · show ((b.toNat + 1 : Nat) : Int) = b + 1
      omega
set_option maxHeartbeats 2000000 in
theorem rplaces_any (w : World) (n : Nat) (hn : n ≤ 1048576) (i j : Int) (i0 : -9223372036854775808 ≤ i) (i1 : i ≤ 9223372036854775807) (j0 : -9223372036854775808 ≤ j) (j1 : j ≤ 9223372036854775807) :
    Calls Try.prog 24 #[.int .i64 (n : Int), .int .i64 i, .int .i64 j] w fun e w' => e = .returned (.tuple #[.int .i64 ((span n i j).1 : Int), .int .i64 ((span n i j).2 : Int)]) ∧ w' = w := by
  have n0 : (0 : Int) ≤ (n : Int) := by omega
  have n9 : (n : Int) ≤ 1048576 := by omega
  obtain ⟨a, ea⟩ : ∃ a, max (front n i) 0 = a := ⟨_, rfl⟩
  obtain ⟨b, eb⟩ : ∃ b, min (front n j) ((n : Int) - 1) = b := ⟨_, rfl⟩
  obtain ⟨s1, s2⟩ := span_is n i j a b ea eb
  rw [s1, s2]
  have mx := run_max_is _ _ ea
  have mn := run_min_is _ _ _ eb
  have m1 : IntKind.i64.wrap ((n : Int) - 1) = (n : Int) - 1 := by rw [IntKind.wrap_i64]; omega
  have b1 : IntKind.i64.wrap (b + 1) = b + 1 := by
    have : -9223372036854775808 ≤ b ∧ b ≤ 1048576 := by subst eb; unfold front; constructor <;> split <;> omega
    rw [IntKind.wrap_i64]; omega
  clear s1 s2
  by_cases hi : i < 0
  · have fi : front n i = i + (n : Int) := by unfold front; rw [if_pos hi]; omega
    have wi : IntKind.i64.wrap (i + (n : Int)) = i + (n : Int) := by rw [IntKind.wrap_i64]; omega
    rw [fi] at mx
    clear ea fi
    by_cases hj : j < 0
    · have fj : front n j = j + (n : Int) := by unfold front; rw [if_pos hj]; omega
      have wj : IntKind.i64.wrap (j + (n : Int)) = j + (n : Int) := by rw [IntKind.wrap_i64]; omega
      rw [fj] at mn
      clear eb fj
      by_cases hab : b < a
      · rw [if_pos hab, if_pos hab]
        go_enter Try.func24, Try.ntmps24
        go_wp2_with fail
        go_ret2
        exact ⟨by simp [*], rfl⟩
      · have hab' : a ≤ b := by omega
        rw [if_neg hab, if_neg hab]
        go_enter Try.func24, Try.ntmps24
        go_wp2_with fail
        go_ret2
        exact ⟨by simp [*], rfl⟩
    · have hj' : 0 ≤ j := by omega
      have fj : front n j = j := by unfold front; rw [if_neg hj]
      rw [fj] at mn
      clear eb fj hj
      by_cases hab : b < a
      · rw [if_pos hab, if_pos hab]
        go_enter Try.func24, Try.ntmps24
        go_wp2_with fail
        go_ret2
        exact ⟨by simp [*], rfl⟩
      · have hab' : a ≤ b := by omega
        rw [if_neg hab, if_neg hab]
        go_enter Try.func24, Try.ntmps24
        go_wp2_with fail
        go_ret2
        exact ⟨by simp [*], rfl⟩
  · have hi' : 0 ≤ i := by omega
    have fi : a = i := by rw [← ea]; unfold front; rw [if_neg hi]; omega
    clear ea mx hi
    subst fi
    by_cases hj : j < 0
    · have fj : front n j = j + (n : Int) := by unfold front; rw [if_pos hj]; omega
      have wj : IntKind.i64.wrap (j + (n : Int)) = j + (n : Int) := by rw [IntKind.wrap_i64]; omega
      rw [fj] at mn
      clear eb fj
      by_cases hab : b < a
      · rw [if_pos hab, if_pos hab]
        go_enter Try.func24, Try.ntmps24
        go_wp2_with fail
        go_ret2
        exact ⟨by simp [*], rfl⟩
      · have hab' : a ≤ b := by omega
        rw [if_neg hab, if_neg hab]
        go_enter Try.func24, Try.ntmps24
        go_wp2_with fail
        go_ret2
        exact ⟨by simp [*], rfl⟩
    · have hj' : 0 ≤ j := by omega
      have fj : front n j = j := by unfold front; rw [if_neg hj]
      rw [fj] at mn
      clear eb fj hj
      by_cases hab : b < a
      · rw [if_pos hab, if_pos hab]
        go_enter Try.func24, Try.ntmps24
        go_wp2_with fail
        go_ret2
        exact ⟨by simp [*], rfl⟩
      · have hab' : a ≤ b := by omega
        rw [if_neg hab, if_neg hab]
        go_enter Try.func24, Try.ntmps24
        go_wp2_with fail
        go_ret2
        exact ⟨by simp [*], rfl⟩
end Go.Proofs.Yteghokakjonblaa
