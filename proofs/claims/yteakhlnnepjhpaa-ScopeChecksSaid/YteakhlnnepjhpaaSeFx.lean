/- The document's own Check: exps (printed by gensef.py). -/
import Derived.Test.YteakhlnnepjhpaaSeEx
import Derived.Test.YteakhlnnepjhpaaScIx
import Derived.Test.YteakhlnnepjhpaaTkBx
namespace Go.Proofs.Yteakhlnnepjhpaa
open Go.RowKit PrM
set_option linter.unusedVariables false
set_option linter.unusedSimpArgs false
theorem exp_same {k : Int} {s : ByteArray} {a : Int} {st : ScM.Sc} {b1 b2 : Bool} (h1 : ScM.has st.names s = b1) (h2 : ScM.builtin s = b2) (h : (decide (k = 6) && (!b1 && !b2)) = false) : expSt k s a st = st := by
 unfold expSt
 split
 ·rename_i q
  rw [decide_eq_true q, Bool.true_and] at h
  unfold ScM.use
  rw [h1, h2]
  cases b1 <;> cases b2 <;> first | rfl | cases h
 ·rfl
theorem exp_note {k : Int} {s : ByteArray} {a : Int} {st : ScM.Sc} {b1 b2 : Bool} (h1 : ScM.has st.names s = b1) (h2 : ScM.builtin s = b2) (h : (decide (k = 6) && (!b1 && !b2)) = true) : expSt k s a st = ScM.note s (ScM.fault 14 a st) := by
 simp only [Bool.and_eq_true, decide_eq_true_eq, Bool.not_eq_true'] at h
 obtain ⟨q, rfl, rfl⟩ := h
 unfold expSt
 rw [if_pos q]
 unfold ScM.use
 rw [h1, h2]
 rfl
theorem note_same (s : ByteArray) (st : ScM.Sc) : (ScM.note s st).names = st.names ∧ (ScM.note s st).own = st.own ∧ (ScM.note s st).err = st.err ∧ (ScM.note s st).at_ = st.at_ := by
 unfold ScM.note
 split <;> exact ⟨rfl, rfl, rfl, rfl⟩
def VX (y : X) : Prop := match y with
 | .e _ _ _ _ _ l f => VPt l f
 | _ => True
set_option maxRecDepth 20000 in
set_option maxHeartbeats 8000000 in
/-- exps. -/
theorem v_exps {x : X} (hw : ScM.wf x) (hf : x.fit 100000) (H : ∀ y ∈ x.elems, VX y) : VE x := by
 intro w B g os ls lo st P v hk h hP hc
 obtain ⟨A, c, rfl⟩ := slice_of h
 obtain ⟨n, hn⟩ : ∃ n, x.len = n := ⟨_, rfl⟩
 rw [show (Value.slice A x.len c) = .slice A n c by rw [hn]] at h ⊢
 have HX := Lib.hid (fun (W : World) (k : Kv B w W) => h.kv k hP)
 have HQ := Lib.hid H
 have HW := Lib.hid hw
 have HN := Lib.hid hn
 have HP := Lib.hid hP
 have HC := Lib.hid hc
 have HK := Lib.hid hk
 have hl := X.fit_len x hf
 rw [hn] at hl
 have n0 : (0 : Int) ≤ (n : Int) := by omega
 have n1 : (n : Int) ≤ 100000 := by omega
 clear h H hw hf hn hP hc hk hl
 go_enter Try.func45, Try.ntmps45
 go_wp2_with fail
 go_loopw [4, 5] (fun u4 u5 wr => ∃ (i : Nat) (v : Value), u4 = .int .i64 (i : Int) ∧ u5 = v ∧ i ≤ n ∧ VQ wr B g os ls lo (ScM.R x i st) ∧ Kv B w wr) (fun u4 _ _ => (n : Int).toNat - (intOf u4).toNat)
 case atStart => exact ⟨0, undef, rfl, rfl, Nat.zero_le _, HK.out, Kv.refl _ _⟩
 case round =>
  obtain ⟨i, v, rfl, rfl, hi, hwk, hkp⟩ := hrel
  have KP := Lib.hid hkp
  have i0 : (0 : Int) ≤ (i : Int) := by omega
  have wri : wrap64 ((i : Int) + 1) = (i : Int) + 1 := by unfold wrap64; omega
  have WQ1 := Lib.hid hwk
  clear hwk hkp
  by_cases hlt : i < n
  ·obtain ⟨wo, hwo⟩ : ∃ wo, wo = wr := ⟨_, rfl⟩
   subst hwo
   obtain ⟨p, y, v0, v1, v2, v3, v4, v5, v6, rfl, hy, ⟨c0, c1, c2, c3, c4, c5, c6⟩, rd⟩ := Sl.at7 (HX.out _ KP.out) (by rw [HN.out]; exact hlt)
   obtain ⟨k, a, m, sv, op, l, f, w5, w6, rfl, he, sl, sf⟩ := Rd.is_e rd rfl
   simp only [Array.mk.injEq, List.cons.injEq, and_true] at he
   obtain ⟨rfl, rfl, rfl, rfl, rfl, rfl, rfl⟩ := he
   obtain ⟨A5, d5, rfl⟩ := slice_of sl
   obtain ⟨A6, d6, rfl⟩ := slice_of sf
   have LT := Lib.hid hlt
   have hl1 : (i : Int) < (n : Int) := by omega
   have bA := (Below.refl wo.heap.size wo).alloc (Nat.le_refl _) (.cells #[.int .i64 k, .int .i64 a, .int .i64 m, .string sv, .int .i64 op, .slice A5 l.len d5, .slice A6 f.len d6] 39)
   have BX := Blk.new wo #[.int .i64 k, .int .i64 a, .int .i64 m, .string sv, .int .i64 op, .slice A5 l.len d5, .slice A6 f.len d6] 39
   have WQ2 := WQ1.out.keep bA
   have KP2 := Kv.of_below bA WQ1.out.base
   obtain ⟨xb, hxb⟩ : ∃ xb, wo.heap.size = xb := ⟨_, rfl⟩
   obtain ⟨w2, hw2⟩ : ∃ w2, wo.alloc (.cells #[.int .i64 k, .int .i64 a, .int .i64 m, .string sv, .int .i64 op, .slice A5 l.len d5, .slice A6 f.len d6] 39) = w2 := ⟨_, rfl⟩
   rw [hw2] at BX WQ2 KP2
   rw [hxb] at BX
   have WQ2 := Lib.hid WQ2
   have KP2 := Lib.hid KP2
   have BX := Lib.hid BX
   have SL := Lib.hid (fun (W : World) (q : Kv B w2 W) => sl.kv (KP2.out.trans q) HP.out)
   have SF := Lib.hid (fun (W : World) (q : Kv B w2 W) => sf.kv (KP2.out.trans q) HP.out)
   have QE : VPt l f := HQ.out _ (List.mem_of_getElem? hy)
   have QE := Lib.hid QE
   have SE := Lib.hid (show ScM.R x (i + 1) st = ScM.runs (ScM.sem f).2 (ScM.runs (ScM.sem l).2 (expSt k sv a (ScM.R x i st))) by rw [ScM.R_succ hy]; rfl)
   have CTE := Lib.hid (show (expSt k sv a (ScM.R x i st)).ct + (ScM.sz l + ScM.sz f) ≤ 1000000000000 by have := (expSt_ext k sv a (ScM.R x i st)).ct; have := R_fit HW.out hy HC.out; simp only [ScM.sz] at this; omega)
   have CTL := Lib.hid (expSt_ext k sv a (ScM.R x i st)).lo
   obtain ⟨st1, hst1⟩ : ∃ s, ScM.R x i st = s := ⟨_, rfl⟩
   rw [hst1] at SE CTE CTL WQ2 WQ1
   have HW2 := Lib.hid hw2
   have HXB := Lib.hid hxb
   clear rd sl sf bA hy hw2 hxb hst1 hlt hi
   go_wp2_with fail
   rw [HW2.out, HXB.out]
   obtain ⟨vn, vw, vl, h2⟩ := WQ2.out
   have WO2 := Lib.hid h2
   have KB : Hid (∀ W, Below w2.heap.size w2 W → (W.cell? ⟨xb, 0, none⟩ = some (.int .i64 k) ∧ W.cell? ⟨xb, 3, none⟩ = some (.string sv)) ∧ W.cell? ⟨g, 0, none⟩ = some vn) := Lib.hid fun W b => by
    obtain ⟨⟨x0, x1, x2, x3, x4, x5, x6⟩, -⟩ := (BX.out.keep b).seven
    obtain ⟨⟨y0, y1, y2, y3, y4⟩, -⟩ := (WO2.out.blk.keep b).five
    exact ⟨⟨x0, x3⟩, y0⟩
   clear h2
   obtain ⟨b1, hb1⟩ : ∃ b1, ScM.has st1.names sv = b1 := ⟨_, rfl⟩
   obtain ⟨b2, hb2⟩ : ∃ b2, ScM.builtin sv = b2 := ⟨_, rfl⟩
   have HA1 : Hid (∀ W, Below w2.heap.size w2 W → Calls Try.prog 21 #[vn, .string sv] W fun e w' => e = .returned (.bool b1) ∧ W = w') := Lib.hid fun W b => by
    rw [← hb1]; exact rhas (Txs.of_own (WO2.out.keep b).names) sv (by have := WO2.out.nlen; have := WO2.out.max; omega)
   have HA2 : Hid (∀ W, Calls Try.prog 10 #[.string sv] W fun e w' => e = .returned (.bool b2) ∧ Below W.heap.size W w') := Lib.hid fun W => by rw [← hb2]; exact rbuiltin_any sv W
   have HB1 := Lib.hid hb1
   have HB2 := Lib.hid hb2
   clear hb1 hb2
   obtain ⟨bv, hbv⟩ : ∃ bv, (decide (k = 6) && (!b1 && !b2)) = bv := ⟨_, rfl⟩
   have HBV := Lib.hid hbv
   clear hbv
   go_cut [34] from 16 to 34 (fun s34 wx => s34 = .bool bv ∧ Below w2.heap.size w2 wx)
   case first =>
    by_cases q : k = 6
    ·have q1 : (k == 6) = true := by rw [q]; rfl
     have HQ6 := Lib.hid (decide_eq_true q)
     clear q
     refine wp_region_held_drew (S := fun W => Below w2.heap.size w2 W) (by kernel_rfl) (Below.refl w2.heap.size w2).drew (fun hH0 => ?_)
     refine tkB 0 hH0 ?_
     refine tkB 1 hH0 ?_
     refine tkB 2 hH0 ?_
     refine tkB 3 hH0 ?_
     refine tkB 4 hH0 ?_
     refine tkB 5 hH0 ?_
     refine tkB 6 hH0 ?_
     refine tkB 7 hH0 ?_
     refine tkB 8 hH0 ?_
     refine tkB 9 hH0 ?_
     refine wpAnyH_ready (rs := [10]) (by kernel_rfl) (by simp) ?_
     refine rdB (fun K hK => ?_) AllReadyH.nil
     rw [if_pos (by rfl)]
     go_wp2_with (go_at_call 21; refine (HA1.out _ hH0).mono ?_; rintro e w3 ⟨rfl, rfl⟩)
     refine hK.out _ _ hH0 (fun hH1 => ?_)
     clear hK K
     try simp only [Act.put, List.setIfInBounds_toArray, List.set_cons_zero, List.set_cons_succ]
     cases b1 with
     | true =>
      refine tkB 11 hH1 ?_
      refine tkB 12 hH1 ?_
      refine tkB 13 hH1 ?_
      refine tkB 14 hH1 ?_
      refine tkB 15 hH1 ?_
      refine wpAnyH_ready (rs := [16]) (by kernel_rfl) (by simp) ?_
      refine rdB (fun K hK => ?_) AllReadyH.nil
      rw [if_neg (by exact Bool.false_ne_true)]
      refine hK.out _ _ hH1 (fun hH2 => ?_)
      clear hK K
      try simp only [Act.put, List.setIfInBounds_toArray, List.set_cons_zero, List.set_cons_succ]
      refine tkB 17 hH2 ?_
      refine tkB 18 hH2 ?_
      refine wpAnyH_done (by kernel_rfl) ?_ _
      go_wp2_with fail
      go_meet
      case rel => exact ⟨by rw [← HBV.out, HQ6.out]; rfl, hH2⟩
     | false =>
      refine tkB 11 hH1 ?_
      refine tkB 12 hH1 ?_
      refine tkB 13 hH1 ?_
      refine tkB 14 hH1 ?_
      refine tkB 15 hH1 ?_
      refine wpAnyH_ready (rs := [16]) (by kernel_rfl) (by simp) ?_
      refine rdB (fun K hK => ?_) AllReadyH.nil
      rw [if_pos (by rfl)]
      go_wp2_with (go_at_call 10; refine (HA2.out _).mono ?_; rintro e w3 ⟨rfl, b3⟩; have BB3 := Lib.hid (hH1.trans (b3.mono hH1.size)); clear b3)
      refine hK.out _ _ BB3.out (fun hH2 => ?_)
      clear hK K
      try simp only [Act.put, List.setIfInBounds_toArray, List.set_cons_zero, List.set_cons_succ]
      refine tkB 17 hH2 ?_
      refine tkB 18 hH2 ?_
      refine wpAnyH_done (by kernel_rfl) ?_ _
      go_wp2_with fail
      go_meet
      case rel => exact ⟨by rw [← HBV.out, HQ6.out]; rfl, hH2⟩
    ·have q1 : (k == 6) = false := by simpa using q
     have HQ6 := Lib.hid (decide_eq_false q)
     clear q
     refine wp_region_held_drew (S := fun W => Below w2.heap.size w2 W) (by kernel_rfl) (Below.refl w2.heap.size w2).drew (fun hH0 => ?_)
     refine tkB 0 hH0 ?_
     refine tkB 1 hH0 ?_
     refine tkB 2 hH0 ?_
     refine tkB 3 hH0 ?_
     refine tkB 4 hH0 ?_
     refine tkB 5 hH0 ?_
     refine tkB 6 hH0 ?_
     refine tkB 7 hH0 ?_
     refine tkB 8 hH0 ?_
     refine tkB 9 hH0 ?_
     refine wpAnyH_ready (rs := [10]) (by kernel_rfl) (by simp) ?_
     refine rdB (fun K hK => ?_) AllReadyH.nil
     rw [if_neg (by exact Bool.false_ne_true)]
     refine hK.out _ _ hH0 (fun hH1 => ?_)
     clear hK K
     try simp only [Act.put, List.setIfInBounds_toArray, List.set_cons_zero, List.set_cons_succ]
     refine tkB 11 hH1 ?_
     refine tkB 12 hH1 ?_
     refine tkB 13 hH1 ?_
     refine tkB 14 hH1 ?_
     refine tkB 15 hH1 ?_
     refine wpAnyH_ready (rs := [16]) (by kernel_rfl) (by simp) ?_
     refine rdB (fun K hK => ?_) AllReadyH.nil
     rw [if_neg (by exact Bool.false_ne_true)]
     refine hK.out _ _ hH1 (fun hH2 => ?_)
     clear hK K
     try simp only [Act.put, List.setIfInBounds_toArray, List.set_cons_zero, List.set_cons_succ]
     refine tkB 17 hH2 ?_
     refine tkB 18 hH2 ?_
     refine wpAnyH_done (by kernel_rfl) ?_ _
     go_wp2_with fail
     go_meet
     case rel => exact ⟨by rw [← HBV.out, HQ6.out]; rfl, hH2⟩
   obtain ⟨rfl, bb⟩ := hcut
   have KP3 := Lib.hid (Kv.of_below bb WO2.out.base)
   have WQ3 := Lib.hid (WQ2.out.keep bb)
   have BX3 := Lib.hid (BX.out.keep bb)
   clear KB HA1 HA2 bb
   obtain ⟨⟨z0, z1, z2, z3, z4, z5, z6⟩, -⟩ := BX3.out.seven
   have AGG := Lib.hid (fun (W : World) (q : Kv B w2 W) => q.blk _ _ _ BX.out (by decide) (by decide) (by decide))
   cases bv with
   | true =>
    have E1 := exp_note (k := k) (a := a) HB1.out HB2.out HBV.out
    have NS := note_same sv (ScM.fault 14 a st1)
    have F1 := Lib.hid (v_fail WQ3.out 14 a)
    have CV := Lib.hid (fun (W : World) (q : VQ W B g os ls lo (ScM.fault 14 a st1)) => (show VQ W B g os ls lo (expSt k sv a st1) from q.conv (by rw [E1]; exact NS.1) (by rw [E1]; exact NS.2.1) (by rw [E1]; exact NS.2.2.1) (by rw [E1]; exact NS.2.2.2) (by rw [E1]; exact (ScM.note_ext sv _).lo) (by have := CTE.out; omega)))
    clear E1 NS
    go_wp2_with (first
     |(go_at_call 55; refine F1.out.mono ?_; rintro e w5 ⟨rfl, h5, k5⟩; have K5 := Lib.hid (KP3.out.trans k5); have C1 := Lib.hid (QE.out w5 B g os ls lo _ _ k a m op sv _ _ (CV.out _ h5) (SL.out _ K5.out) (SF.out _ K5.out) HP.out CTE.out); clear h5 k5 z0 z1 z2 z3 z4 z5 z6; obtain ⟨⟨z0, z1, z2, z3, z4, z5, z6⟩, -⟩ := (AGG.out _ K5.out).seven)
     |(go_at_call 56; refine C1.out.mono ?_; rintro e w6 ⟨rfl, h6, k6⟩; have H6 := Lib.hid h6; have K6 := Lib.hid (((KP.out.trans KP2.out).trans K5.out).trans k6); clear h6 k6))
    refine ⟨⟨i + 1, _, ?_, rfl, LT.out, by rw [SE.out]; exact H6.out, K6.out⟩, ?_⟩
    ·first | rfl | exact congrArg (Value.int .i64) (wri.trans (by omega))
    ·have := LT.out; simp only [intOf]; omega
   | false =>
    have E1 := exp_same (k := k) (a := a) HB1.out HB2.out HBV.out
    rw [E1] at SE CTE
    have C1 := Lib.hid (QE.out wc B g os ls lo _ _ k a m op sv _ _ WQ3.out (SL.out _ KP3.out) (SF.out _ KP3.out) HP.out CTE.out)
    clear E1
    go_wp2_with (go_at_call 56; refine C1.out.mono ?_; rintro e w6 ⟨rfl, h6, k6⟩; have H6 := Lib.hid h6; have K6 := Lib.hid (((KP.out.trans KP2.out).trans KP3.out).trans k6); clear h6 k6)
    refine ⟨⟨i + 1, _, ?_, rfl, LT.out, by rw [SE.out]; exact H6.out, K6.out⟩, ?_⟩
    ·first | rfl | exact congrArg (Value.int .i64) (wri.trans (by omega))
    ·have := LT.out; simp only [intOf]; omega
  ·have hl1 : ¬ (i : Int) < (n : Int) := by omega
   have RE1 := Lib.hid (ScM.R_end (x := x) (i := i) (by rw [HN.out]; omega) st)
   clear hlt hi
   go_wp2_with fail
   go_end0
   have k := WQ1.out
   rw [RE1.out] at k
   exact ⟨rfl, k, KP.out⟩
end Go.Proofs.Yteakhlnnepjhpaa
