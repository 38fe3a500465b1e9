/- The contract of ints.Print at 5, which the laws' own check calls. It makes memory and changes none. -/
import Derived.Test.YtdiedplmgclacaaDoorParse
import Derived.Laws.BytesArg
import Derived.ProofKit
namespace Go.Proofs.YtdiedplmgclacaaDoor
open Go.RowKit
set_option maxHeartbeats 400000 in
theorem print_five (w : World) :
    Calls Tryd.prog 7 #[.int .i64 5] w fun e w' => e = .returned (.string ⟨#[53]⟩) ∧ Below w.heap.size w w' := by
  have hc : (convert 32 9 (.slice (some ⟨w.heap.size, 19, none⟩) 1 1)).run Tryd.prog (w.alloc (.cells #[.int .u8 0, .int .u8 0, .int .u8 0, .int .u8 0, .int .u8 0, .int .u8 0, .int .u8 0, .int .u8 0, .int .u8 0, .int .u8 0, .int .u8 0, .int .u8 0, .int .u8 0, .int .u8 0, .int .u8 0, .int .u8 0, .int .u8 0, .int .u8 0, .int .u8 0, .int .u8 53] 31)) = .ok (.string ⟨#[53]⟩) (w.alloc (.cells #[.int .u8 0, .int .u8 0, .int .u8 0, .int .u8 0, .int .u8 0, .int .u8 0, .int .u8 0, .int .u8 0, .int .u8 0, .int .u8 0, .int .u8 0, .int .u8 0, .int .u8 0, .int .u8 0, .int .u8 0, .int .u8 0, .int .u8 0, .int .u8 0, .int .u8 0, .int .u8 53] 31)) :=
    run_convert_bytes_arg _ 32 5 Tryd.underlying32 Tryd.underlying5 w.heap.size 19 1 1 [53] rfl (fun i hi => by
      obtain rfl : i = 0 := by omega
      simp) 9 Tryd.underlying9
  go_enter Tryd.func7, Tryd.ntmps7
  go_wp2
  go_step3
  go_wp2
  go_step3
  go_wp2
  all_goals try rw [Exit.noGoto_ret]
  all_goals go_ret
  exact ⟨rfl, (Below.refl _ w).alloc (Nat.le_refl _) _⟩
end Go.Proofs.YtdiedplmgclacaaDoor
