/- The check of a point's part at whole numbers; the sums and products of points with signs at their zeros. -/
import Derived.Test.YtgokjdlemfaagaaMath
namespace Go.Proofs.Ytgokjdlemfaagaa
open Go.RowKit
set_option linter.unusedVariables false
/-- May the whole number n, a zero's sign being z, be a point's part? -/
def okp (z : Bool) (n : Int) : Bool := decide (n.natAbs ≤ 1048576) && !(decide (n = 0) && z)
theorem w_hi : (4697254411347427328 : Nat) = Fl.fw false 1048576 := by decide +kernel
theorem part_fw (z : Bool) (n : Int) (hn : n.natAbs < 9007199254740992) (w : World) :
    Calls Try.prog 62 #[.float .f64 (Fl.fw z n)] w fun e w' => e = .returned (.bool (okp z n)) ∧ w = w' := by
  have o3 : FloatKind.f64.format.order (Fl.fw z n) (Fl.fw z n) = some .eq := by rw [← Fl.cmp_eq n]; exact Fl.order_fw _ _ _ _ hn hn
  have o4 : FloatKind.f64.format.order (Fl.fw z n) 0 = some (compare n 0) := by rw [← fw00]; exact Fl.order_fw _ _ _ _ hn (by decide)
  have o2 : FloatKind.f64.format.order (Fl.fw false n.natAbs) 4697254411347427328 = some (compare (n.natAbs : Int) 1048576) := by rw [w_hi]; exact Fl.order_fw _ _ _ _ (by omega) (by decide)
  have ca := abs_fw z n hn
  have ct := trunc_fw z n hn
  have cs : ∀ W, n = 0 → Calls Try.prog 59 #[.float .f64 (Fl.fw z n)] W fun e w' => e = .returned (.bool z) ∧ W = w' := fun W h => by subst h; exact sign_zero z W
  obtain ⟨X, hX⟩ : ∃ X, Fl.fw z n = X := ⟨_, rfl⟩
  obtain ⟨Y, hY⟩ : ∃ Y, Fl.fw false n.natAbs = Y := ⟨_, rfl⟩
  simp only [hX, hY] at o2 o3 o4 ca ct cs ⊢
  clear hX hY
  obtain ⟨b, hb⟩ : ∃ b, (FloatKind.f64.format.order Y 4697254411347427328 == some Ordering.lt || FloatKind.f64.format.order Y 4697254411347427328 == some Ordering.eq) = b := ⟨_, rfl⟩
  have hb2 : b = decide (n.natAbs ≤ 1048576) := by
    rw [← hb, o2]
    rcases Int.lt_trichotomy (n.natAbs : Int) 1048576 with k | k | k
    · rw [Fl.cmp_lt k, decide_eq_true (by omega)]; rfl
    · rw [k, Fl.cmp_eq, decide_eq_true (by omega)]; rfl
    · rw [Fl.cmp_gt k, decide_eq_false (by omega)]; rfl
  clear o2
  have e1 : okp z n = (b && !(decide (n = 0) && z)) := by rw [hb2]; rfl
  rw [e1]
  clear e1 hb2
  by_cases h0 : n = 0
  · have c1 := fun W => cs W h0
    subst h0
    rw [Fl.cmp_eq] at o4
    have e : (b && !(decide ((0 : Int) = 0) && z)) = (b && !z) := by simp
    rw [e]
    clear e cs
    cases b
    · go_enter Try.func62, Try.ntmps62
      go_wp2_with first
        | (go_at_call 59; refine (c1 _).mono ?_; rintro e w' ⟨rfl, rfl⟩)
        | (go_at_call 67; refine (ca _).mono ?_; rintro e w' ⟨rfl, rfl⟩)
        | (go_at_call 68; refine (ct _).mono ?_; rintro e w' ⟨rfl, rfl⟩)
      go_ret
      exact ⟨rfl, rfl⟩
    · go_enter Try.func62, Try.ntmps62
      go_wp2_with first
        | (go_at_call 59; refine (c1 _).mono ?_; rintro e w' ⟨rfl, rfl⟩)
        | (go_at_call 67; refine (ca _).mono ?_; rintro e w' ⟨rfl, rfl⟩)
        | (go_at_call 68; refine (ct _).mono ?_; rintro e w' ⟨rfl, rfl⟩)
      go_ret
      exact ⟨by simp, rfl⟩
  · have o5 : (FloatKind.f64.format.order X 0 == some Ordering.eq) = false := by
      rw [o4]
      rcases (by omega : n < 0 ∨ 0 < n) with k | k
      · rw [Fl.cmp_lt k]; rfl
      · rw [Fl.cmp_gt k]; rfl
    have e : (b && !(decide (n = 0) && z)) = b := by rw [decide_eq_false h0]; simp
    rw [e]
    clear e cs o4
    cases b
    · go_enter Try.func62, Try.ntmps62
      go_wp2_with first
        | (go_at_call 67; refine (ca _).mono ?_; rintro e w' ⟨rfl, rfl⟩)
        | (go_at_call 68; refine (ct _).mono ?_; rintro e w' ⟨rfl, rfl⟩)
      go_ret
      exact ⟨rfl, rfl⟩
    · go_enter Try.func62, Try.ntmps62
      go_wp2_with first
        | (go_at_call 67; refine (ca _).mono ?_; rintro e w' ⟨rfl, rfl⟩)
        | (go_at_call 68; refine (ct _).mono ?_; rintro e w' ⟨rfl, rfl⟩)
      go_ret
      exact ⟨rfl, rfl⟩
end Go.Proofs.Ytgokjdlemfaagaa
