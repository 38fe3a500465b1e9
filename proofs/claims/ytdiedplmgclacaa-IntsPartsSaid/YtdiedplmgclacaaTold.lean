/- The contract of the laws' own check 'told': it answers true. It makes memory and changes none. -/
import Derived.Test.YtdiedplmgclacaaCut
import Derived.Test.YtdiedplmgclacaaFive
namespace Go.Proofs.Ytdiedplmgclacaa
open Go.RowKit
theorem told_p12 (w : World) : Calls Try.prog 18 #[.string ⟨#[45, 49, 50]⟩] w fun e w' => e = .returned (.tuple #[.int .i64 (-12), .bool true]) ∧ w = w' :=
  parse_any ⟨#[45, 49, 50]⟩ w (by decide)
theorem told_p012 (w : World) : Calls Try.prog 18 #[.string ⟨#[48, 49, 50]⟩] w fun e w' => e = .returned (.tuple #[.int .i64 0, .bool false]) ∧ w = w' :=
  parse_any ⟨#[48, 49, 50]⟩ w (by decide)
theorem told_div (w : World) : Calls Try.prog 14 #[.int .i64 (-7), .int .i64 2] w fun e w' => e = .returned (.tuple #[.int .i64 (-4), .bool true]) ∧ w = w' :=
  div_any (-7) 2 (by decide) (by decide) w
theorem told_mod (w : World) : Calls Try.prog 15 #[.int .i64 (-7), .int .i64 2] w fun e w' => e = .returned (.tuple #[.int .i64 1, .bool true]) ∧ w = w' :=
  mod_any (-7) 2 (by decide) (by decide) w
theorem told_add (w : World) : Calls Try.prog 7 #[.int .i64 4611686018427387904, .int .i64 4611686018427387904] w fun e w' => e = .returned (.tuple #[.int .i64 0, .bool false]) ∧ w = w' :=
  add_any 4611686018427387904 4611686018427387904 (by decide) (by decide) w
set_option maxHeartbeats 400000 in
theorem told_any (w : World) :
    Calls Try.prog 13 #[] w fun e w' => e = .returned (.bool true) ∧ Grown w w' := by
  go_enter Try.func13, Try.ntmps13
  go_wp2_with (first | (go_at_call 14; refine (told_div _).mono ?_; rintro e w' ⟨rfl, rfl⟩) | (go_at_call 15; refine (told_mod _).mono ?_; rintro e w' ⟨rfl, rfl⟩) | (go_at_call 7; refine (told_add _).mono ?_; rintro e w' ⟨rfl, rfl⟩) | (go_at_call 18; with_reducible refine (told_p12 _).mono ?_; rintro e w' ⟨rfl, rfl⟩) | (go_at_call 18; with_reducible refine (told_p012 _).mono ?_; rintro e w' ⟨rfl, rfl⟩) | (go_at_call 19; refine (print_five _).mono ?_; rintro e w' ⟨rfl, hg⟩))
  all_goals go_ret
  all_goals exact ⟨rfl, hg⟩
end Go.Proofs.Ytdiedplmgclacaa
