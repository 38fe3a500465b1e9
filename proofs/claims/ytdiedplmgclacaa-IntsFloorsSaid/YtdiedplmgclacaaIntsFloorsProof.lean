/- Proved: for any two int64 numbers a and b the law IntsFloors answers true, so that for a number between -2^40 and 2^40 and a divisor from 1 to 2^20 the quotient of package ints times the divisor is at most the number and one more is beyond it, and signs turned on both sides turn nothing; the call changes neither argument nor any memory that was there before; there is no further condition. -/
import Derived.Test.YtdiedplmgclacaaRows
import Derived.WalkKit
import Derived.ProofKit
import Derived.OpenShut
import Derived.Test.YtdiedplmgclacaaFloors
namespace Go.Proofs.Ytdiedplmgclacaa.intsFloors
open Go.ChangeShapes Go.WideShapes Go.ChangeAt Go.RowKit
set_option linter.unusedVariables false      -- a walk need not use each 'w<i>' (that an integer argument fits its kind)

theorem own : ownKnob Try.prog.godebug = none := by kernel_rfl

/-! ### STEP 1: THE WALK: the Go text returns true. 'Grown w w'': the world has at most new blocks (Derived/RowKit3.lean). Part the cases AHEAD of 'go_enter' where a test parts the walk; take each callee by a contract of your own. -/
theorem walk (a0 : Int) (a1 : Int) (w0 : (Lit.int .i64 a0).wf = true) (w1 : (Lit.int .i64 a1).wf = true) (w : World) :
    Calls Try.prog 6 #[.int .i64 a0, .int .i64 a1] w fun e w' => e = .returned (.bool true) ∧ Grown w w' := by
  obtain ⟨y, hy, y1, y2⟩ := floor_y a1
  obtain ⟨x, hx, x1, x2⟩ := floor_x a0
  obtain ⟨q1, q2, q3, r1, r2⟩ := floor_q x1 x2 y1
  obtain ⟨q, Q⟩ : ∃ q, Hid (x.fdiv y = q) := ⟨_, rfl⟩
  obtain ⟨r, R⟩ : ∃ r, Hid (x.fmod y = r) := ⟨_, rfl⟩
  rw [Q.out] at q1 q2 q3
  rw [R.out] at q3 r1 r2
  have q4 : wrap64 (q * y) = x - r := by rw [q3, wrap_in (by omega)]
  have q5 : wrap64 ((q + 1) * y) = x - r + y := by rw [Int.add_mul, q3, Int.one_mul, wrap_in (by omega)]
  clear q3
  have Q6 : Hid (r = wrap64 (x - wrap64 (q * y))) := by
    show r = wrap64 (x - wrap64 (q * y))
    rw [q4, wrap_in (by omega)]; omega
  have Q7 : Hid (x < wrap64 ((q + 1) * y)) := by
    show x < wrap64 ((q + 1) * y)
    rw [q5]; omega
  have Q8 : Hid (wrap64 (q * y) ≤ x) := by
    show wrap64 (q * y) ≤ x
    rw [q4]; omega
  clear q4 q5
  go_enter Try.func6, Try.ntmps6
  go_wp2_with (first | (go_at_call 14; with_reducible refine (fdiv_any x y q Q x1 x2 y1 y2 _).mono ?_; rintro e w' ⟨rfl, rfl⟩) | (go_at_call 14; with_reducible refine (tdiv_any x y q Q x1 x2 y1 y2 _).mono ?_; rintro e w' ⟨rfl, rfl⟩) | (go_at_call 15; with_reducible refine (fmod_any x y r R x1 x2 y1 y2 _).mono ?_; rintro e w' ⟨rfl, rfl⟩) | (go_at_call 15; with_reducible refine (tmod_any x y r R x1 x2 y1 y2 _).mono ?_; rintro e w' ⟨rfl, rfl⟩))
  refine (told_any _).mono ?_
  rintro e w' ⟨rfl, hg⟩
  go_wp2_with fail
  all_goals first
    | (exfalso; have g := Q6.out; have h : ¬ r = wrap64 (x - wrap64 (q * y)) := by assumption
       exact h g)
    | (exfalso; have g := Q7.out; have h : wrap64 ((q + 1) * y) ≤ x := by assumption
       omega)
    | (exfalso; have g := Q8.out; have h : x < wrap64 (q * y) := by assumption
       omega)
    | (go_ret
       exact ⟨rfl, hg⟩)

/-! ### THE ROW's STEP: WRITTEN OUT: LEAVE IT -/
set_option maxRecDepth 100000 in
theorem lifted (os : Os) (started : os.Started) (H : Type) (enc : TypeId × Value → H) :
    ReturnsInHanded {} Try.checked os 6 .any (Rows.intsFloorsSpec.pre6 enc Try.prog Try.f6 Rows.intsFloorsRow.domain false) (Rows.intsFloorsSpec.post enc Try.prog Try.f6 false true false false) := by
  refine returnsInHanded_of_change (C := Try.checked) own started (by kernel_rfl) Try.func6
    (ChangeSpec.witness6 (enc := enc) (C := Try.checked) false ⟨#[], #[.int .i64 0, .int .i64 0], []⟩ 8 (by kernel_rfl) (by kernel_rfl) (by kernel_rfl) (by kernel_rfl)) ?_
  intro W base args ds gs before hval0 hW hcnd _
  have hval : ∀ (j : Nat) t v, Try.f6.params[j]? = some t → args[j]? = some v → Value.okWide Try.prog W .any base t v := hval0
  have hW' := hW
  obtain ⟨p, q, hA0, hV, rfl, hfz, hnd⟩ := hW
  have hA : DataW.TrodAll enc Try.prog W 0 (fun _ => true) true Try.f6.params.toList args.toList ds p := hA0
  rw [Try.params6] at hA hval
  obtain ⟨v0, vs0, d0, ds0, p0, q0, hargs, rfl, rfl, h0, r0⟩ := trodAll_cons hA
  obtain ⟨v1, vs1, d1, ds1, p1, q1, rfl, rfl, rfl, h1, r1⟩ := trodAll_cons r0
  obtain ⟨rfl, rfl, rfl⟩ := trodAll_nil r1
  obtain rfl : args = #[v0, v1] := by cases args; simp_all
  obtain ⟨rfl, rfl⟩ := trodVars_none hV
  obtain ⟨a0, rfl, rfl, rfl, w0⟩ := open_int Try.underlying2 (hval 0 2 v0 rfl rfl) h0
  obtain ⟨a1, rfl, rfl, rfl, w1⟩ := open_int Try.underlying2 (hval 1 2 v1 rfl rfl) h1
  clear hA0 hval0
  simp only [List.append_nil] at hW'
  refine (walk a0 a1 w0 w1 W).mono fun e W' ⟨he, hg⟩ => ?_
  subst he
  exact ⟨_, rfl, post_of_same (pa := []) (pv := []) hW' (fun _ _ _ => (trodAll_cons_mk (shut_bool Try.underlying4 _) trodAll_mk0)) (fun sp _ => (trodAll_cons_mk (shut_int Try.underlying2 w0) (trodAll_cons_mk (shut_int Try.underlying2 w1) trodAll_mk0))) (fun _ _ => rfl) rfl
    (hg.frame _) hg.2.1 (ok_one (by kernel_rfl) rfl (okWide_bool_mk Try.underlying4 _))⟩

theorem over : Rows.intsFloorsRow.holds Try.pinned (OpenSpec.ofChange Rows.intsFloorsSpec) :=
  OpenClaim.holds_of_wide 6 Try.f6 rfl rfl rfl rfl rfl rfl rfl ⟨rfl, rfl, rfl, rfl, rfl⟩ rfl rfl rfl rfl rfl (by kernel_rfl) Try.func6 (by kernel_rfl)
    (of_decide_eq_true (by kernel_rfl)) (by unfold Func.isWrapper; first | (rw [if_pos (by decide +kernel)]; kernel_rfl) | (rw [if_neg (by decide +kernel)]; exact ⟨rfl, rfl⟩))
    (fun os started H enc _ => lifted os started H enc)

/-- ████ THE STATEMENT ████ -/
theorem proved : Rows.IntsFloorsSaid :=
  over
#print axioms proved
end Go.Proofs.Ytdiedplmgclacaa.intsFloors
