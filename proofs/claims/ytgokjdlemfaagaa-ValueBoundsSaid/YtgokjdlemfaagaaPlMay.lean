/- plane.May at whole numbers, with signs at zeros. -/
import Derived.Test.YtgokjdlemfaagaaPlPart
import Derived.Laws.ComplexArith
namespace Go.Proofs.Ytgokjdlemfaagaa
open Go.RowKit
set_option linter.unusedVariables false
/-- The complex number of two whole parts, with signs at zeros. -/
def Cv (z : Bool) (m : Int) (y : Bool) (n : Int) : Value := .complex .f64 (Fl.fw z m) (Fl.fw y n)
theorem cv_pv (m n : Int) : Cv false m false n = Pv m n := rfl
/-- Parts that are exact. -/
abbrev Ex (n : Int) : Prop := n.natAbs < 9007199254740992
theorem may_fw (p q : Bool) (m n : Int) (hm : Ex m) (hn : Ex n) (w : World) :
    Calls Try.prog 44 #[Cv p m q n] w fun e w' => e = .returned (.bool (okp p m && okp q n)) ∧ w = w' := by
  have h1 := part_fw p m hm
  have h2 := part_fw q n hn
  unfold Cv
  obtain ⟨X, hX⟩ : ∃ X, Fl.fw p m = X := ⟨_, rfl⟩
  obtain ⟨Y, hY⟩ : ∃ Y, Fl.fw q n = Y := ⟨_, rfl⟩
  obtain ⟨a, ha⟩ : ∃ a, okp p m = a := ⟨_, rfl⟩
  obtain ⟨b, hb⟩ : ∃ b, okp q n = b := ⟨_, rfl⟩
  simp only [hX, hY, ha, hb] at h1 h2 ⊢
  clear hX hY ha hb
  cases a
  · go_enter Try.func44, Try.ntmps44
    go_wp2_with (go_at_call 62; with_reducible refine (h1 _).mono ?_; rintro e w' ⟨rfl, rfl⟩)
    go_ret
    exact ⟨rfl, rfl⟩
  · cases b
    · go_enter Try.func44, Try.ntmps44
      go_wp2_with first
        | (go_at_call 62; with_reducible refine (h1 _).mono ?_; rintro e w' ⟨rfl, rfl⟩)
        | (go_at_call 62; with_reducible refine (h2 _).mono ?_; rintro e w' ⟨rfl, rfl⟩)
      go_ret
      exact ⟨rfl, rfl⟩
    · go_enter Try.func44, Try.ntmps44
      go_wp2_with first
        | (go_at_call 62; with_reducible refine (h1 _).mono ?_; rintro e w' ⟨rfl, rfl⟩)
        | (go_at_call 62; with_reducible refine (h2 _).mono ?_; rintro e w' ⟨rfl, rfl⟩)
      go_ret
      exact ⟨rfl, rfl⟩
theorem okp_in (m n : Int) : (okp false m && okp false n) = decide (In m n) := by
  unfold okp In
  simp only [Bool.and_false, Bool.not_false, Bool.and_true]
  exact (Bool.decide_and _ _).symm
theorem may_pv (m n : Int) (hm : Ex m) (hn : Ex n) (w : World) :
    Calls Try.prog 44 #[Pv m n] w fun e w' => e = .returned (.bool (decide (In m n))) ∧ w = w' := by
  rw [← okp_in]
  exact may_fw false false m n hm hn w
end Go.Proofs.Ytgokjdlemfaagaa
