/- A whole number as a double: cut to a whole number it is itself; without its sign bit it is its size. Plain mathematics but for the model's entry of the cut. -/
import Derived.Test.YtgokjdlemfaagaaFlo
import Derived.Laws.Externs
import Derived.Laws.BitsAllLaws
namespace Go.Proofs.Ytgokjdlemfaagaa.Fl
open Ieee
set_option linter.unusedVariables false
theorem integral_is {d : Datum} {s : Bool} {n : Int} (h : Is d s n) : Is (d.integral .zero) s n := by
  obtain ⟨k, hk, rfl, hs⟩ := h
  have e1 : (-(k : Int)).toNat = 0 := by omega
  have e2 : (-(-(k : Int))).toNat = k := by omega
  refine ⟨0, by omega, ?_, hs⟩
  unfold Datum.integral
  simp only [e1, e2, Nat.shiftLeft_zero, cut_zero, Nat.pow_zero, Nat.mul_one]
  rfl
theorem trunc_word (z : Bool) (n : Int) (hn : n.natAbs < 9007199254740992) : double.write ((double.read (fw z n)).integral .zero) = fw z n := by
  rw [write_fw (integral_is (read_fw' z n hn)) hn, fw_sg]
theorem run_trunc {P : Program} (z : Bool) (n : Int) (hn : n.natAbs < 9007199254740992) (w : World) :
    (Extern.MathFloor.toIntegral "math.archTrunc" .zero #[.float .f64 (fw z n)]).run P w = .ok (.float .f64 (fw z n)) w := by
  have e : double.read (fw z n) = FloatKind.f64.decode (fw z n) := rfl
  have t := trunc_word z n hn
  obtain ⟨k, hk, hr, hs⟩ := read_fw' z n hn
  rw [hr] at t
  rw [e] at hr
  have key : ∀ d : Datum, d = .number (sg z n) (n.natAbs * 2 ^ k) (-(k : Int)) → FloatKind.f64.decode (fw z n) = d →
      Extern.MathFloor.toIntegral "math.archTrunc" .zero #[.float .f64 (fw z n)] = pure (Value.float .f64 (double.write (d.integral .zero))) := fun d hd he => by
    delta Extern.MathFloor.toIntegral
    generalize fw z n = X at he
    conv => lhs; whnf
    subst hd
    rw [he]
    rfl
  rw [key _ rfl hr, t]
  rfl
theorem abs_word (z : Bool) (n : Int) (hn : n.natAbs < 9007199254740992) : bits .andNot .u64 ((fw z n : Nat) : Int) 9223372036854775808 = ((fw false n.natAbs : Nat) : Int) := by
  have hr := rung_lt hn
  have hw := fw_word z n hn
  have hw' := fw_word false (n.natAbs : Int) (by omega)
  generalize hb : (if n = 0 then z else decide (n < 0)) = b at hw
  have hp : (if (n.natAbs : Int) = 0 then false else decide ((n.natAbs : Int) < 0)) = false := by
    by_cases e : (n.natAbs : Int) = 0
    · rw [if_pos e]
    · rw [if_neg e]; exact decide_eq_false (by omega)
  rw [hp, Int.natAbs_natCast] at hw'
  have e0 : double.word false (rung n.natAbs) = rung n.natAbs := by unfold Format.word; simp
  have hmod : fw z n % 9223372036854775808 = rung n.natAbs ∧ fw z n < 18446744073709551616 := by
    rw [hw]
    unfold Format.word
    rw [dbl_sign]
    cases b
    · rw [if_neg (by decide)]; omega
    · rw [if_pos rfl]; omega
  rw [hw', e0]
  have h := u64_andNot_nat (fw z n) 9223372036854775808 hmod.2 (by decide)
  have hand : fw z n &&& (18446744073709551615 - 9223372036854775808) = fw z n % 9223372036854775808 := Nat.and_two_pow_sub_one_eq_mod (fw z n) 63
  rw [hand, hmod.1] at h
  exact h
end Go.Proofs.Ytgokjdlemfaagaa.Fl
