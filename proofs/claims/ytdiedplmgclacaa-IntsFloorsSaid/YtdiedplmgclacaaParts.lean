/- Lemmas for the law IntsParts: quotient, rest and what they make together. -/
import Derived.Test.YtdiedplmgclacaaTold
import Derived.Test.YtdiedplmgclacaaRef
import Derived.Lib.Hide
namespace Go.Proofs.Ytdiedplmgclacaa
open Go.RowKit
theorem fitB_iff {x : Int} (h : fitB x = true) : -9223372036854775808 ≤ x ∧ x ≤ 9223372036854775807 := by
  unfold fitB at h; exact of_decide_eq_true h
theorem fit_no {x : Int} (h : fitB x = false) : fitV x = 0 := by
  unfold fitV; rw [h]; rfl
theorem div_none {a b : Int} (h : divB a b = false) : divV a b = 0 := by
  unfold divV; unfold divB at h
  split
  · rfl
  · rw [if_neg (by assumption)] at h; exact fit_no h
theorem fdiv_parts (a b : Int) : b * a.fdiv b + a.fmod b = a := Int.mul_fdiv_add_fmod a b
theorem fmod_pos (a : Int) {b : Int} (h : 0 < b) : 0 ≤ a.fmod b ∧ a.fmod b < b := ⟨Int.fmod_nonneg_of_pos a h, Int.fmod_lt_of_pos a h⟩
theorem fmod_neg (a : Int) {b : Int} (h : b < 0) : a.fmod b ≤ 0 ∧ b < a.fmod b := by
  have h0 : b ≠ 0 := by omega
  have t := tdm a b h0
  have f := fdm (a := a) h0
  by_cases z : a.tmod b = 0
  · have := (f.1 z).2; omega
  · by_cases s : (a < 0 ↔ b < 0)
    · have := (f.2.1 z s).2; omega
    · have := (f.2.2 z s).2; omega
theorem mod_wf {a b : Int} (wb : (Lit.int .i64 b).wf = true) : (Lit.int .i64 (modV a b)).wf = true := by
  have b1 := wf_lo wb
  have b2 := wf_hi wb
  unfold modV
  split
  · decide
  · rcases Int.lt_or_lt_of_ne (by assumption : b ≠ 0) with h | h
    · have := fmod_neg a h; exact wf_of (by omega) (by omega)
    · have := fmod_pos a h; exact wf_of (by omega) (by omega)
theorem div_wf {a b : Int} : (Lit.int .i64 (divV a b)).wf = true := by
  unfold divV
  split
  · decide
  · exact fitV_wf _
theorem parts_sum {a b : Int} (wa : (Lit.int .i64 a).wf = true) (h0 : b ≠ 0) (p : divB a b = true) (m : mulB b (divV a b) = true) :
    addV (mulV b (divV a b)) (modV a b) = a ∧ addB (mulV b (divV a b)) (modV a b) = true := by
  rw [divB, if_neg h0] at p
  have e : divV a b = a.fdiv b := by rw [divV, if_neg h0, fitV_yes (fitB_iff p)]
  rw [mulB] at m
  have k : mulV b (divV a b) = b * a.fdiv b := by rw [mulV, fitV_yes (fitB_iff m), e]
  have s : mulV b (divV a b) + modV a b = a := by rw [k, modV, if_neg h0, fdiv_parts]
  rw [addV, addB, s]
  exact ⟨fitV_yes ⟨wf_lo wa, wf_hi wa⟩, fitB_yes ⟨wf_lo wa, wf_hi wa⟩⟩
theorem sum_any (a b : Int) (wa : (Lit.int .i64 a).wf = true) (wb : (Lit.int .i64 b).wf = true) (h0 : b ≠ 0) (p : divB a b = true) (m : mulB b (divV a b) = true) (w : World) :
    Calls Try.prog 7 #[.int .i64 (mulV b (divV a b)), .int .i64 (modV a b)] w fun e w' => e = .returned (.tuple #[.int .i64 a, .bool true]) ∧ w = w' := by
  have h := add_any (mulV b (divV a b)) (modV a b) (fitV_wf _) (mod_wf wb) w
  have k := parts_sum wa h0 p m
  rw [k.1, k.2] at h
  exact h
theorem div_off (a b : Int) (wa : (Lit.int .i64 a).wf = true) (wb : (Lit.int .i64 b).wf = true) (p : divB a b = false) (w : World) :
    Calls Try.prog 14 #[.int .i64 a, .int .i64 b] w fun e w' => e = .returned (.tuple #[.int .i64 0, .bool false]) ∧ w = w' := by
  have h := div_any a b wa wb w
  rw [p, div_none p] at h
  exact h
theorem rdiv_off (a b : Int) (wa : (Lit.int .i64 a).wf = true) (wb : (Lit.int .i64 b).wf = true) (p : divB a b = false) (w : World) :
    Calls Try.prog 16 #[.int .i64 a, .int .i64 b] w fun e w' => e = .returned (.tuple #[.int .i64 0, .bool false]) ∧ w = w' := by
  have h := rdiv_any a b wa wb w
  rw [p, div_none p] at h
  exact h
theorem mod_rest {a b : Int} (h : b ≠ 0) : (0 < b → 0 ≤ modV a b ∧ modV a b < b) ∧ (b < 0 → modV a b ≤ 0 ∧ b < modV a b) := by
  rw [modV, if_neg h]
  exact ⟨fmod_pos a, fmod_neg a⟩
theorem mod_zero (a : Int) (wa : (Lit.int .i64 a).wf = true) (w : World) :
    Calls Try.prog 15 #[.int .i64 a, .int .i64 0] w fun e w' => e = .returned (.tuple #[.int .i64 0, .bool false]) ∧ w = w' := mod_any a 0 wa (by decide) w
theorem rmod_zero (a : Int) (wa : (Lit.int .i64 a).wf = true) (w : World) :
    Calls Try.prog 17 #[.int .i64 a, .int .i64 0] w fun e w' => e = .returned (.tuple #[.int .i64 0, .bool false]) ∧ w = w' := rmod_any a 0 wa (by decide) w
theorem modB_yes {b : Int} (h : b ≠ 0) : modB b = true := by unfold modB; rw [decide_eq_false h]; rfl
end Go.Proofs.Ytdiedplmgclacaa
