/- The contract of the laws' own check 'told': it answers true. It makes memory and changes none. -/
import Derived.Test.YtdiedplmgclacaaDoorCut
import Derived.Test.YtdiedplmgclacaaDoorFiveB
namespace Go.Proofs.YtdiedplmgclacaaDoor
open Go.RowKit
theorem told_p12 (w : World) : Calls Tryd.prog 5 #[.string ⟨#[45, 49, 50]⟩] w fun e w' => e = .returned (.tuple #[.int .i64 (-12), .bool true]) ∧ w = w' :=
  parse_any ⟨#[45, 49, 50]⟩ w (by decide)
theorem told_p012 (w : World) : Calls Tryd.prog 5 #[.string ⟨#[48, 49, 50]⟩] w fun e w' => e = .returned (.tuple #[.int .i64 0, .bool false]) ∧ w = w' :=
  parse_any ⟨#[48, 49, 50]⟩ w (by decide)
theorem told_div (w : World) : Calls Tryd.prog 9 #[.int .i64 (-7), .int .i64 2] w fun e w' => e = .returned (.tuple #[.int .i64 (-4), .bool true]) ∧ w = w' :=
  div_any (-7) 2 (by decide) (by decide) w
theorem told_mod (w : World) : Calls Tryd.prog 10 #[.int .i64 (-7), .int .i64 2] w fun e w' => e = .returned (.tuple #[.int .i64 1, .bool true]) ∧ w = w' :=
  mod_any (-7) 2 (by decide) (by decide) w
theorem told_add (w : World) : Calls Tryd.prog 11 #[.int .i64 4611686018427387904, .int .i64 4611686018427387904] w fun e w' => e = .returned (.tuple #[.int .i64 0, .bool false]) ∧ w = w' :=
  add_any 4611686018427387904 4611686018427387904 (by decide) (by decide) w
set_option maxHeartbeats 400000 in
theorem told_any (w : World) :
    Calls Tryd.prog 4 #[] w fun e w' => e = .returned (.bool true) ∧ Below w.heap.size w w' := by
  go_enter Tryd.func4, Tryd.ntmps4
  go_wp2_with (first | (go_at_call 9; refine (told_div _).mono ?_; rintro e w' ⟨rfl, rfl⟩) | (go_at_call 10; refine (told_mod _).mono ?_; rintro e w' ⟨rfl, rfl⟩) | (go_at_call 11; refine (told_add _).mono ?_; rintro e w' ⟨rfl, rfl⟩) | (go_at_call 5; with_reducible refine (told_p12 _).mono ?_; rintro e w' ⟨rfl, rfl⟩) | (go_at_call 5; with_reducible refine (told_p012 _).mono ?_; rintro e w' ⟨rfl, rfl⟩) | (go_at_call 7; refine (print_five _).mono ?_; rintro e w' ⟨rfl, hg⟩))
  all_goals go_ret
  all_goals exact ⟨rfl, hg⟩
end Go.Proofs.YtdiedplmgclacaaDoor
