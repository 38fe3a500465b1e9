/- Package lex: bytes: digits, letters, blanks, digits to the base 16. -/
import Derived.Test.YtikbgkndfmcfhaaDoorRows
import Derived.Test.YtikbgkndfmcfhaaDoorLxM
import Derived.WalkKit
import Derived.WalkSpells
import Derived.WalkLawsBesides
import Derived.Lib.Hide
namespace Go.Proofs.YtikbgkndfmcfhaaDoor
open Go.RowKit
set_option linter.unusedVariables false
theorem bool_ret {x y : Bool} (h : x = true ↔ y = true) : Ending.returned (.bool x) = Ending.returned (.bool y) := by rw [Bool.eq_iff_iff.2 h]
theorem dig_any (b : Int) (w : World) (h0 : -1 ≤ b) (h1 : b ≤ 255) :
    Calls Tryd.prog 25 #[.int .i64 b] w fun e w' => e = .returned (.bool (LxM.dg b)) ∧ w = w' := by
  go_enter Tryd.func25, Tryd.ntmps25
  go_wp2_with fail
  all_goals go_ret
  all_goals exact ⟨by simp [LxM.dg] <;> omega, rfl⟩
theorem let_any (b : Int) (w : World) (h0 : -1 ≤ b) (h1 : b ≤ 255) :
    Calls Tryd.prog 30 #[.int .i64 b] w fun e w' => e = .returned (.bool (LxM.lt b)) ∧ w = w' := by
  go_enter Tryd.func30, Tryd.ntmps30
  go_wp2_with fail
  all_goals go_ret
  all_goals exact ⟨bool_ret (by simp [LxM.lt] <;> omega), rfl⟩
theorem bla_any (b : Int) (w : World) (h0 : -1 ≤ b) (h1 : b ≤ 255) :
    Calls Tryd.prog 28 #[.int .i64 b] w fun e w' => e = .returned (.bool (LxM.bl b)) ∧ w = w' := by
  go_enter Tryd.func28, Tryd.ntmps28
  go_wp2_with fail
  all_goals go_ret
  all_goals exact ⟨bool_ret (by simp [LxM.bl] <;> omega), rfl⟩
theorem wrd_any (b : Int) (w : World) (h0 : -1 ≤ b) (h1 : b ≤ 255) :
    Calls Tryd.prog 26 #[.int .i64 b] w fun e w' => e = .returned (.bool (LxM.wd b)) ∧ w = w' := by
  have DA := Lib.hid (dig_any b · h0 h1)
  have LA := Lib.hid (let_any b · h0 h1)
  clear h0 h1
  unfold LxM.wd
  cases hl : LxM.lt b
  all_goals rw [hl] at LA
  all_goals go_enter Tryd.func26, Tryd.ntmps26
  all_goals go_wp2_with (first | (go_at_call 30; refine (LA.out _).mono ?_; rintro e w' ⟨rfl, rfl⟩) | (go_at_call 25; refine (DA.out _).mono ?_; rintro e w' ⟨rfl, rfl⟩))
  all_goals go_ret
  all_goals exact ⟨by simp, rfl⟩
theorem hex_any (b : Int) (w : World) (h0 : -1 ≤ b) (h1 : b ≤ 255) :
    Calls Tryd.prog 39 #[.int .i64 b] w fun e w' => e = .returned (.int .i64 (LxM.hx b)) ∧ w = w' := by
  have DA := Lib.hid (dig_any b · h0 h1)
  have e1 : wrap64 (b - 48) = b - 48 := by unfold wrap64; omega
  have e2 : wrap64 (b - 97) = b - 97 := by unfold wrap64; omega
  have e3 : wrap64 (b - 65) = b - 65 := by unfold wrap64; omega
  have e4 : wrap64 (b - 97 + 10) = b - 87 := by unfold wrap64; omega
  have e5 : wrap64 (b - 65 + 10) = b - 55 := by unfold wrap64; omega
  unfold LxM.hx
  cases hl : LxM.dg b
  all_goals rw [hl] at DA
  all_goals go_enter Tryd.func39, Tryd.ntmps39
  all_goals go_wp2_with (first | (go_at_call 25; refine (DA.out _).mono ?_; rintro e w' ⟨rfl, rfl⟩))
  all_goals go_ret
  all_goals exact ⟨by simp <;> omega, rfl⟩
end Go.Proofs.YtikbgkndfmcfhaaDoor
