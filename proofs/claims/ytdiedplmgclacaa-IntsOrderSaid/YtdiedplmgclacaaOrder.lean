/- Lemmas for the law IntsOrder: sums and products turned round, and what is taken away again. -/
import Derived.Test.YtdiedplmgclacaaTold
import Derived.Lib.Hide
namespace Go.Proofs.Ytdiedplmgclacaa
open Go.RowKit
theorem fitV_fit {x : Int} (h : fitB x = true) : fitV x = x := by unfold fitV; rw [if_pos h]
theorem add_sw (a b : Int) (wa : (Lit.int .i64 a).wf = true) (wb : (Lit.int .i64 b).wf = true) (w : World) :
    Calls Try.prog 7 #[.int .i64 b, .int .i64 a] w fun e w' => e = .returned (.tuple #[.int .i64 (addV a b), .bool (addB a b)]) ∧ w = w' := by
  have h := add_any b a wb wa w
  rw [addV, addB, Int.add_comm] at h
  exact h
theorem mul_sw (a b : Int) (wa : (Lit.int .i64 a).wf = true) (wb : (Lit.int .i64 b).wf = true) (w : World) :
    Calls Try.prog 11 #[.int .i64 b, .int .i64 a] w fun e w' => e = .returned (.tuple #[.int .i64 (mulV a b), .bool (mulB a b)]) ∧ w = w' := by
  have h := mul_any b a wb wa w
  rw [mulV, mulB, Int.mul_comm] at h
  exact h
theorem sub_back (a b : Int) (wa : (Lit.int .i64 a).wf = true) (wb : (Lit.int .i64 b).wf = true) (h : addB a b = true) (w : World) :
    Calls Try.prog 9 #[.int .i64 (addV a b), .int .i64 b] w fun e w' => e = .returned (.tuple #[.int .i64 a, .bool true]) ∧ w = w' := by
  have k := sub_any (addV a b) b (fitV_wf _) wb w
  have e : addV a b - b = a := by rw [addV, fitV_fit h]; omega
  have f : -9223372036854775808 ≤ a ∧ a ≤ 9223372036854775807 := ⟨wf_lo wa, wf_hi wa⟩
  rw [subV, subB, e, fitV_yes f, fitB_yes f] at k
  exact k
theorem div_back (a b : Int) (wa : (Lit.int .i64 a).wf = true) (wb : (Lit.int .i64 b).wf = true) (h : mulB a b = true) (h0 : b ≠ 0) (w : World) :
    Calls Try.prog 14 #[.int .i64 (mulV a b), .int .i64 b] w fun e w' => e = .returned (.tuple #[.int .i64 a, .bool true]) ∧ w = w' := by
  have k := div_any (mulV a b) b (fitV_wf _) wb w
  have e : (mulV a b).fdiv b = a := by rw [mulV, fitV_fit h, Int.mul_fdiv_cancel a h0]
  have f : -9223372036854775808 ≤ a ∧ a ≤ 9223372036854775807 := ⟨wf_lo wa, wf_hi wa⟩
  rw [divV, divB, if_neg h0, if_neg h0, e, fitV_yes f, fitB_yes f] at k
  exact k
end Go.Proofs.Ytdiedplmgclacaa
