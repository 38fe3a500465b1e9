/- Package scope: the walker: repeat. -/
import Derived.Test.YteakhlnnepjhpaaScJx
namespace Go.Proofs.Yteakhlnnepjhpaa
open Go.RowKit PrM
set_option linter.unusedVariables false
set_option linter.unusedSimpArgs false
theorem declare_none (st : ScM.Sc) : ScM.declare [] st = st := by unfold ScM.declare; simp
set_option maxRecDepth 20000 in
set_option maxHeartbeats 4000000 in
/-- repeat. -/
theorem repeat_s {l b : X} (wl : ScM.wf l) (wb : ScM.wf b) (rl : ScM.row 7 l) (rb : ScM.row 1 b) (gl : GE l) (fb : b.fit 100000) (hb : ∀ y ∈ b.elems, ScQ y) {w : World} {B g : Nat} {S : List It} {st : ScM.Sc} {P : Nat → Prop} {k a : Int} {vn vl vb : Value} (hk : WK w B g S st) (sl : Sl l.len (Rd w P l).row 7 vl) (sb : Sl b.len (Rd w P b).row 1 vb) (hP : ∀ q, P q → q < B) (hc : st.ct + (1 + ScM.sz l + ScM.sz b) ≤ 1000000000000) (shn : ∃ A n c, vn = .slice A n c) :
  Calls Try.prog 67 #[.pointer (some ⟨g, 0, none⟩), .agg (SC5 k a vn vl vb)] w (WP w B g S (ScM.scope 2 [] (fun s => ScM.runs (ScM.sem l).2 (ScM.runs (ScM.sem b).2 s)) st)) := by
 obtain ⟨An, nn, cn, rfl⟩ := shn
 obtain ⟨Al, cl, rfl⟩ : ∃ A c, vl = .slice A l.len c := by obtain ⟨A, c, e, -⟩ := sl; exact ⟨A, c, e⟩
 obtain ⟨Ab, cb, rfl⟩ : ∃ A c, vb = .slice A b.len c := by obtain ⟨A, c, e, -⟩ := sb; exact ⟨A, c, e⟩
 obtain ⟨m, hm⟩ : ∃ m, b.len = m := ⟨_, rfl⟩
 have HM := Lib.hid hm
 have bel := (Below.refl w.heap.size w).alloc (Nat.le_refl _) (SB k a (.slice An nn cn) (.slice Al l.len cl) (.slice Ab b.len cb))
 have AL := Lib.hid (Kp.of_below (b := true) bel hk.base)
 have BX := Lib.hid (Blk.new w (SC5 k a (.slice An nn cn) (.slice Al l.len cl) (.slice Ab b.len cb)) 42)
 obtain ⟨vi, vo, mb, ob, hr⟩ := hk
 have HR := Lib.hid hr
 have E1 := Lib.hid (enter_s (hr.keep bel) 2 (.inr (.inl rfl)) (by omega))
 obtain ⟨st1, hst1⟩ : ∃ st1, ScM.enter 2 st = st1 := ⟨_, rfl⟩
 rw [hst1] at E1
 have EX := Lib.hid (fun y hy => ScM.sem_ext y (ScM.wf_elems wb y hy))
 have X2 := Lib.hid (ScM.R_all EX.out st1)
 have X3 := Lib.hid (ScM.R_calm_all (fun y hy => ScM.sem_ext y (ScM.wf_elems wl y hy)) rl (.inl rfl) (ScM.runs (ScM.sem b).2 st1))
 have c1 : st1.ct = st.ct + 1 := by rw [← hst1]; rfl
 obtain ⟨st2, hst2⟩ : ∃ st2, ScM.runs (ScM.sem b).2 st1 = st2 := ⟨_, rfl⟩
 rw [hst2] at X2 X3
 obtain ⟨st3, hst3⟩ : ∃ st3, ScM.runs (ScM.sem l).2 st2 = st3 := ⟨_, rfl⟩
 rw [hst3] at X3
 have HC := Lib.hid (show st1.ct + ScM.sz b ≤ 1000000000000 by omega)
 have SLL := Lib.hid sl
 have HP := Lib.hid hP
 have C2 := Lib.hid (fun (w1 : World) (kp : Kp B true w w1) (h1 : WK w1 B g (S ++ [⟨2, ⟨#[]⟩, st.own, st.loops⟩] ++ (ScM.dc b).2.map nm) st2) => gl w1 B g _ _ P _ h1 (SLL.out.kp kp HP.out) HP.out (by have := X2.out.ct; omega))
 rw [hst3] at C2
 have SC := Lib.hid (show ScM.scope 2 [] (fun s => ScM.runs (ScM.sem l).2 (ScM.runs (ScM.sem b).2 s)) st = ScM.back st st3 by unfold ScM.scope; rw [declare_none, hst1]; show ScM.back st (ScM.runs (ScM.sem l).2 (ScM.runs (ScM.sem b).2 st1)) = _; rw [hst2, hst3])
 have SBB := Lib.hid sb
 have QB := Lib.hid (fun y hy => hb y hy (ScM.wf_elems wb y hy) (fit_el b fb y hy))
 have WB := Lib.hid wb
 have ST1 := Lib.hid hst1
 have ST2 := Lib.hid hst2
 have f2 := X.fit_len b fb
 rw [hm] at f2
 have m0 : (0 : Int) ≤ (m : Int) := by omega
 have m1 : (m : Int) ≤ 100000 := by omega
 have C1T := Lib.hid c1
 clear wl wb rl rb fb hb sl sb hP hc bel f2 hr hst1 hst2 hst3 c1 gl hm
 obtain ⟨⟨b0, b1, b2, b3, b4⟩, -⟩ := BX.out.five
 go_enter Try.func67, Try.ntmps67
 go_wp2_with (first | (go_at_call 39; refine E1.out.mono ?_; rintro e w1 ⟨rfl, h1, kp1⟩; have H1 := Lib.hid h1; have K1 := Lib.hid (AL.out.trans kp1.weak); have BX1 := Lib.hid (kp1.blk _ _ _ BX.out (by decide) (by decide) (fun q => absurd q (by decide))); clear h1 kp1 b0 b1 b2 b3 b4; obtain ⟨⟨b0, b1, b2, b3, b4⟩, -⟩ := BX1.out.five; rw [HM.out] at b4))
 clear b0 b1 b2 b3 b4
 go_loopw [5, 13] (fun u5 u13 wr => ∃ (i : Nat) (v : Value), u5 = v ∧ u13 = .int .i64 (i : Int) ∧ i ≤ m ∧ WK wr B g (S ++ [⟨2, ⟨#[]⟩, st.own, st.loops⟩] ++ (ScM.dcI b i).map nm) (ScM.R b i st1) ∧ Kp B true w wr ∧ Blk wr w.heap.size (SC5 k a (.slice An nn cn) (.slice Al l.len cl) (.slice Ab b.len cb)) 42) (fun _ u13 _ => (m : Int).toNat - (intOf u13).toNat)
 case atStart => exact ⟨0, undef, rfl, rfl, Nat.zero_le _, by rw [ScM.dcI_zero, List.map_nil, List.append_nil]; exact H1.out, K1.out, BX1.out⟩
 case round =>
  obtain ⟨i, v, rfl, rfl, hi, hwk, hkp, hbx⟩ := hrel
  have WK1 := Lib.hid hwk
  have KP := Lib.hid hkp
  have BX2 := Lib.hid hbx
  have i0 : (0 : Int) ≤ (i : Int) := by omega
  have wri : wrap64 ((i : Int) + 1) = (i : Int) + 1 := by unfold wrap64; omega
  clear hwk hkp hbx
  by_cases hlt : i < m
  ·obtain ⟨p, y, v0, rfl, hy, c0, rd⟩ := Sl.at1 (SBB.out.kp KP.out HP.out) (by rw [HM.out]; exact hlt)
   rw [Nat.mul_one] at c0
   obtain ⟨bd, w0, rfl, he, s2⟩ := Rd.is_b rd rfl
   simp only [Array.mk.injEq, List.cons.injEq, and_true] at he
   subst he
   obtain ⟨A5, d5, rfl⟩ : ∃ A c, v0 = .slice A bd.len c := by obtain ⟨A, c, e, -⟩ := s2; exact ⟨A, c, e⟩
   have D1 := Lib.hid (QB.out _ (List.mem_of_getElem? hy) _ B g _ _ P _ WK1.out s2 HP.out (by have := R_fit WB.out hy HC.out; exact this))
   have RN := Lib.hid (ScM.R_succ hy st1)
   have DN := Lib.hid (ScM.dcI_succ hy)
   have LT := Lib.hid hlt
   have hl1 : (i : Int) < (m : Int) := by omega
   clear rd s2 hy hlt hi
   go_wp2_with (go_at_call 41; refine D1.out.mono ?_; rintro e w3 ⟨rfl, h3, kp3⟩; have H3 := Lib.hid h3; have K3 := Lib.hid (KP.out.trans kp3); have BX3 := Lib.hid (kp3.blk _ _ _ BX2.out (by decide) (by decide) (fun _ => by decide)); clear h3 kp3)
   refine ⟨⟨i + 1, _, rfl, ?_, LT.out, ?_, K3.out, BX3.out⟩, ?_⟩
   ·first | rfl | exact congrArg (Value.int .i64) (wri.trans (by omega))
   ·rw [RN.out, DN.out, List.map_append, ← List.append_assoc]
    exact H3.out
   ·have := LT.out; simp only [intOf]; omega
  ·have hl1 : ¬ (i : Int) < (m : Int) := by omega
   have IE := ScM.R_end (x := b) (i := i) (by rw [HM.out]; omega) st1
   have DE := ScM.dcI_end (x := b) (i := i) (by rw [HM.out]; omega)
   have h2 := WK1.out
   rw [IE, DE, ST2.out] at h2
   have D2 := Lib.hid (C2.out wr KP.out h2)
   clear hlt hi IE DE h2
   obtain ⟨⟨b0, b1, b2, b3, b4⟩, -⟩ := BX2.out.five
   go_wp2_with (first
    |(go_at_call 65; refine D2.out.mono ?_; rintro e w3 ⟨rfl, h3, kp3⟩; have K3 := Lib.hid (KP.out.trans kp3); have L1 := Lib.hid (leave_s h3 (.inr (.inl rfl)) (Nat.le_trans HR.out.own (Nat.le_trans (show st.ct ≤ st1.ct by rw [C1T.out]; omega) (Nat.le_trans X2.out.lo X3.out.lo))) (Nat.le_trans HR.out.loops (Nat.le_trans (show st.ct ≤ st1.ct by rw [C1T.out]; omega) (Nat.le_trans X2.out.lo X3.out.lo))) (by rw [X3.out.own, X2.out.own]; simp only [List.length_nil]; omega) (fun e => by rw [X3.out.loops, X2.out.loops, ← ST1.out]; simp [ScM.enter])); clear h3 kp3)
    |(go_at_call 42; refine L1.out.mono ?_; rintro e w4 ⟨rfl, h4, kp4⟩; have H4 := Lib.hid h4; have K4 := Lib.hid (K3.out.trans kp4.weak); clear h4 kp4))
   go_end0
   rw [SC.out]
   have e : ScM.back st st3 = { st3 with names := vis S, own := if (2 : Int) = 3 then st.own else st3.own - (ScM.dc b).2.length, loops := if (2 : Int) = 2 then st3.loops - 1 else if (2 : Int) = 3 then st.loops else st3.loops } := by
    unfold ScM.back
    rw [HR.out.names, X3.out.own, X3.out.loops, X2.out.own, X2.out.loops, ← ST1.out]
    simp only [ScM.enter, ScM.Sc.mk.injEq, true_and, and_true]
    refine ⟨?_, ?_⟩ <;> simp
   rw [e]
   exact ⟨rfl, H4.out, K4.out⟩
end Go.Proofs.Yteakhlnnepjhpaa
