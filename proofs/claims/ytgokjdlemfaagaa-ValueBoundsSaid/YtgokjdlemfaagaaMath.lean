/- What package math answers at whole numbers: Signbit of a zero, Abs, Trunc. -/
import Derived.Test.YtgokjdlemfaagaaFlt
import Derived.Test.YtgokjdlemfaagaaPlaneB
namespace Go.Proofs.Ytgokjdlemfaagaa
open Go.RowKit
set_option linter.unusedVariables false
theorem fw_lt (z : Bool) (n : Int) (hn : n.natAbs < 9007199254740992) : Fl.fw z n < 18446744073709551616 := Fl.bits_lt z n hn
theorem bits_ext (x : Nat) (w : World) : (callFunc 66 #[.float .f64 x]).run Try.prog w = .ok (.value (.int .u64 x)) w := by
  rw [run_callFunc_extern (e := Extern.MathFloatBits.float64bits) Try.func66 (by kernel_rfl) (by kernel_rfl) (by kernel_rfl) (by kernel_rfl)]
  rfl
theorem frombits_ext (n : Int) (w : World) : (callFunc 69 #[.int .u64 n]).run Try.prog w = .ok (.value (.float .f64 n.toNat)) w := by
  rw [run_callFunc_extern (e := Extern.MathFloatBits.float64frombits) Try.func69 (by kernel_rfl) (by kernel_rfl) (by kernel_rfl) (by kernel_rfl)]
  rfl
theorem trunc_ext (z : Bool) (n : Int) (hn : n.natAbs < 9007199254740992) (w : World) : (callFunc 70 #[.float .f64 (Fl.fw z n)]).run Try.prog w = .ok (.value (.float .f64 (Fl.fw z n))) w := by
  rw [run_callFunc_extern (e := Extern.MathFloor.toIntegral "math.archTrunc" .zero) Try.func70 (by kernel_rfl) (by kernel_rfl) (by kernel_rfl) (by kernel_rfl), Fl.run_trunc z n hn]
  rfl
theorem abs_fw (z : Bool) (n : Int) (hn : n.natAbs < 9007199254740992) (w : World) :
    Calls Try.prog 67 #[.float .f64 (Fl.fw z n)] w fun e w' => e = .returned (.float .f64 (Fl.fw false n.natAbs)) ∧ w = w' := by
  have hb := Fl.abs_word z n hn
  have b1 : ∀ W, (callFunc 66 #[.float .f64 (Fl.fw z n)]).run Try.prog W = .ok (.value (.int .u64 (Fl.fw z n : Nat))) W := fun W => bits_ext _ W
  have b2 : ∀ W, (callFunc 69 #[.int .u64 ((Fl.fw false n.natAbs : Nat) : Int)]).run Try.prog W = .ok (.value (.float .f64 (Fl.fw false n.natAbs))) W := fun W => by rw [frombits_ext, Int.toNat_natCast]
  obtain ⟨X, hX⟩ : ∃ X, Fl.fw z n = X := ⟨_, rfl⟩
  obtain ⟨Y, hY⟩ : ∃ Y, Fl.fw false n.natAbs = Y := ⟨_, rfl⟩
  simp only [hX, hY] at hb b1 b2 ⊢
  clear hX hY
  go_enter Try.func67, Try.ntmps67
  go_wp2_with fail
  go_ret
  exact ⟨rfl, rfl⟩
theorem trunc_fw (z : Bool) (n : Int) (hn : n.natAbs < 9007199254740992) (w : World) :
    Calls Try.prog 68 #[.float .f64 (Fl.fw z n)] w fun e w' => e = .returned (.float .f64 (Fl.fw z n)) ∧ w = w' := by
  have b1 := trunc_ext z n hn
  obtain ⟨X, hX⟩ : ∃ X, Fl.fw z n = X := ⟨_, rfl⟩
  simp only [hX] at b1 ⊢
  clear hX
  go_enter Try.func68, Try.ntmps68
  go_wp2_with fail
  go_ret
  exact ⟨rfl, rfl⟩
theorem sign_zero (z : Bool) (w : World) :
    Calls Try.prog 59 #[.float .f64 (Fl.fw z 0)] w fun e w' => e = .returned (.bool z) ∧ w = w' := by
  cases z
  · rw [show Fl.fw false 0 = 0 by decide +kernel]
    have b1 : ∀ W, (callFunc 66 #[.float .f64 0]).run Try.prog W = .ok (.value (.int .u64 0)) W := bits_ext 0
    go_enter Try.func59, Try.ntmps59
    go_wp2_with fail
    go_ret
    exact ⟨rfl, rfl⟩
  · rw [show Fl.fw true 0 = 9223372036854775808 by decide +kernel]
    have b1 : ∀ W, (callFunc 66 #[.float .f64 9223372036854775808]).run Try.prog W = .ok (.value (.int .u64 9223372036854775808)) W := bits_ext 9223372036854775808
    go_enter Try.func59, Try.ntmps59
    go_wp2_with fail
    go_ret
    exact ⟨by rw [show wrap64 9223372036854775808 = -9223372036854775808 by simp [wrap64]]; rfl, rfl⟩
end Go.Proofs.Ytgokjdlemfaagaa
