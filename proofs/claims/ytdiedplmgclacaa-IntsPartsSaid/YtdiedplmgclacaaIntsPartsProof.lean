/- Proved: for any two int64 numbers a and b the law IntsParts answers true, so that Div and Mod of package ints return what the document's own answers return, the quotient times b and the rest make a again, and the rest lies between none and b; the call changes neither argument nor any memory that was there before; there is no further condition. -/
import Derived.Test.YtdiedplmgclacaaRows
import Derived.WalkKit
import Derived.ProofKit
import Derived.OpenShut
import Derived.Test.YtdiedplmgclacaaParts
namespace Go.Proofs.Ytdiedplmgclacaa.intsParts
open Go.ChangeShapes Go.WideShapes Go.ChangeAt Go.RowKit
set_option linter.unusedVariables false      -- a walk need not use each 'w<i>' (that an integer argument fits its kind)

theorem own : ownKnob Try.prog.godebug = none := by kernel_rfl

/-! ### STEP 1: THE WALK: the Go text returns true. 'Grown w w'': the world has at most new blocks (Derived/RowKit3.lean). Part the cases AHEAD of 'go_enter' where a test parts the walk; take each callee by a contract of your own. -/
theorem walk (a0 : Int) (a1 : Int) (w0 : (Lit.int .i64 a0).wf = true) (w1 : (Lit.int .i64 a1).wf = true) (w : World) :
    Calls Try.prog 4 #[.int .i64 a0, .int .i64 a1] w fun e w' => e = .returned (.bool true) ∧ Grown w w' := by
  by_cases h0 : a1 = 0
  · subst h0
    go_enter Try.func4, Try.ntmps4
    go_wp2_with (first | (go_at_call 14; refine (div_off a0 0 w0 w1 rfl _).mono ?_; rintro e w' ⟨rfl, rfl⟩) | (go_at_call 16; refine (rdiv_off a0 0 w0 w1 rfl _).mono ?_; rintro e w' ⟨rfl, rfl⟩) | (go_at_call 15; refine (mod_zero a0 w0 _).mono ?_; rintro e w' ⟨rfl, rfl⟩) | (go_at_call 17; refine (rmod_zero a0 w0 _).mono ?_; rintro e w' ⟨rfl, rfl⟩) | (go_at_call 13; refine (told_any _).mono ?_; rintro e w' ⟨rfl, hg⟩))
    all_goals go_ret
    all_goals exact ⟨rfl, hg⟩
  · have hm := Lib.hid (mod_rest (a := a0) h0)
    obtain ⟨p, P⟩ : ∃ p, Hid (divB a0 a1 = p) := ⟨_, rfl⟩
    have M : Hid (modB a1 = true) := modB_yes h0
    cases p
    · go_enter Try.func4, Try.ntmps4
      go_wp2_with (first | (go_at_call 14; refine (div_off a0 a1 w0 w1 P _).mono ?_; rintro e w' ⟨rfl, rfl⟩) | (go_at_call 16; refine (rdiv_off a0 a1 w0 w1 P _).mono ?_; rintro e w' ⟨rfl, rfl⟩) | (go_at_call 15; refine (mod_any a0 a1 w0 w1 _).mono ?_; rintro e w' ⟨rfl, rfl⟩; rw [M.out]) | (go_at_call 17; refine (rmod_any a0 a1 w0 w1 _).mono ?_; rintro e w' ⟨rfl, rfl⟩; rw [M.out]) | (go_at_call 13; refine (told_any _).mono ?_; rintro e w' ⟨rfl, hg⟩))
      all_goals go_ret
      all_goals exact ⟨rfl, hg⟩
    · obtain ⟨m, R⟩ : ∃ m, Hid (mulB a1 (divV a0 a1) = m) := ⟨_, rfl⟩
      have H0 := Lib.hid h0
      cases m <;> rcases Int.lt_or_lt_of_ne h0 with hs | hs
      all_goals
        (first | (have hr := hm.out.1 hs) | (have hr := hm.out.2 hs))
        (obtain ⟨hr1, hr2⟩ := hr)
        (clear h0)
        (go_enter Try.func4, Try.ntmps4)
        (go_wp2_with (first | (go_at_call 14; refine (div_any a0 a1 w0 w1 _).mono ?_; rintro e w' ⟨rfl, rfl⟩; rw [P.out]) | (go_at_call 16; refine (rdiv_any a0 a1 w0 w1 _).mono ?_; rintro e w' ⟨rfl, rfl⟩; rw [P.out]) | (go_at_call 15; refine (mod_any a0 a1 w0 w1 _).mono ?_; rintro e w' ⟨rfl, rfl⟩; rw [M.out]) | (go_at_call 17; refine (rmod_any a0 a1 w0 w1 _).mono ?_; rintro e w' ⟨rfl, rfl⟩; rw [M.out]) | (go_at_call 11; refine (mul_any a1 (divV a0 a1) w1 div_wf _).mono ?_; rintro e w' ⟨rfl, rfl⟩; rw [R.out]) | (go_at_call 7; refine (sum_any a0 a1 w0 w1 H0 P R _).mono ?_; rintro e w' ⟨rfl, rfl⟩) | (go_at_call 13; refine (told_any _).mono ?_; rintro e w' ⟨rfl, hg⟩)))
        (all_goals go_ret)
        (all_goals exact ⟨rfl, hg⟩)

/-! ### THE ROW's STEP: WRITTEN OUT: LEAVE IT -/
set_option maxRecDepth 100000 in
theorem lifted (os : Os) (started : os.Started) (H : Type) (enc : TypeId × Value → H) :
    ReturnsInHanded {} Try.checked os 4 .any (Rows.intsPartsSpec.pre6 enc Try.prog Try.f4 Rows.intsPartsRow.domain false) (Rows.intsPartsSpec.post enc Try.prog Try.f4 false true false false) := by
  refine returnsInHanded_of_change (C := Try.checked) own started (by kernel_rfl) Try.func4
    (ChangeSpec.witness6 (enc := enc) (C := Try.checked) false ⟨#[], #[.int .i64 0, .int .i64 0], []⟩ 8 (by kernel_rfl) (by kernel_rfl) (by kernel_rfl) (by kernel_rfl)) ?_
  intro W base args ds gs before hval0 hW hcnd _
  have hval : ∀ (j : Nat) t v, Try.f4.params[j]? = some t → args[j]? = some v → Value.okWide Try.prog W .any base t v := hval0
  have hW' := hW
  obtain ⟨p, q, hA0, hV, rfl, hfz, hnd⟩ := hW
  have hA : DataW.TrodAll enc Try.prog W 0 (fun _ => true) true Try.f4.params.toList args.toList ds p := hA0
  rw [Try.params4] at hA hval
  obtain ⟨v0, vs0, d0, ds0, p0, q0, hargs, rfl, rfl, h0, r0⟩ := trodAll_cons hA
  obtain ⟨v1, vs1, d1, ds1, p1, q1, rfl, rfl, rfl, h1, r1⟩ := trodAll_cons r0
  obtain ⟨rfl, rfl, rfl⟩ := trodAll_nil r1
  obtain rfl : args = #[v0, v1] := by cases args; simp_all
  obtain ⟨rfl, rfl⟩ := trodVars_none hV
  obtain ⟨a0, rfl, rfl, rfl, w0⟩ := open_int Try.underlying2 (hval 0 2 v0 rfl rfl) h0
  obtain ⟨a1, rfl, rfl, rfl, w1⟩ := open_int Try.underlying2 (hval 1 2 v1 rfl rfl) h1
  clear hA0 hval0
  simp only [List.append_nil] at hW'
  refine (walk a0 a1 w0 w1 W).mono fun e W' ⟨he, hg⟩ => ?_
  subst he
  exact ⟨_, rfl, post_of_same (pa := []) (pv := []) hW' (fun _ _ _ => (trodAll_cons_mk (shut_bool Try.underlying4 _) trodAll_mk0)) (fun sp _ => (trodAll_cons_mk (shut_int Try.underlying2 w0) (trodAll_cons_mk (shut_int Try.underlying2 w1) trodAll_mk0))) (fun _ _ => rfl) rfl
    (hg.frame _) hg.2.1 (ok_one (by kernel_rfl) rfl (okWide_bool_mk Try.underlying4 _))⟩

theorem over : Rows.intsPartsRow.holds Try.pinned (OpenSpec.ofChange Rows.intsPartsSpec) :=
  OpenClaim.holds_of_wide 4 Try.f4 rfl rfl rfl rfl rfl rfl rfl ⟨rfl, rfl, rfl, rfl, rfl⟩ rfl rfl rfl rfl rfl (by kernel_rfl) Try.func4 (by kernel_rfl)
    (of_decide_eq_true (by kernel_rfl)) (by unfold Func.isWrapper; first | (rw [if_pos (by decide +kernel)]; kernel_rfl) | (rw [if_neg (by decide +kernel)]; exact ⟨rfl, rfl⟩))
    (fun os started H enc _ => lifted os started H enc)

/-- ████ THE STATEMENT ████ -/
theorem proved : Rows.IntsPartsSaid :=
  over
#print axioms proved
end Go.Proofs.Ytdiedplmgclacaa.intsParts
