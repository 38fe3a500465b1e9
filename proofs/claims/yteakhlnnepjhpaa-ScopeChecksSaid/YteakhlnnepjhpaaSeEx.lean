/- The document's own Check: block. -/
import Derived.Test.YteakhlnnepjhpaaSeDx
namespace Go.Proofs.Yteakhlnnepjhpaa
open Go.RowKit PrM
set_option linter.unusedVariables false
set_option linter.unusedSimpArgs false
def VS (y : X) : Prop := match y with
 | .s k a ns l b => ∀ (w : World) (B g : Nat) (os ls : List Int) (lo : Int) (st : ScM.Sc) (P : Nat → Prop) (v2 v3 v4 : Value), lo = (st.loops : Int) → VQ w B g os ls lo st → Strs w P v2 ns → Sl l.len (Rd w P l).row 7 v3 → Sl b.len (Rd w P b).row 1 v4 → (∀ q, P q → q < B) → st.ct + ScM.sz (.s k a ns l b) ≤ 1000000000000 → Calls Try.prog 44 #[.pointer (some ⟨g, 0, none⟩), .agg (SC5 k a v2 v3 v4)] w (VP w B g os ls lo ((ScM.sem (.s k a ns l b)).1 st))
 | _ => True
/-- The names cut to what they were. -/
theorem VO.cutN {w : World} {B g n c : Nat} {A : Option Addr} {vw vl : Value} {os ls : List Int} {lo : Int} {st : ScM.Sc} {l ds : List ByteArray} (h : VO w B g (.slice A n c) vw vl os ls lo st) (hn : st.names = l ++ ds) :
  VO (w.setCell ⟨g, 0, none⟩ (.slice A l.length c)) B g (.slice A l.length c) vw vl os ls lo { st with names := l } ∧ Kv B w (w.setCell ⟨g, 0, none⟩ (.slice A l.length c)) := by
 have o := (Only.refl (fun q => q = g) w).setCell (p := ⟨g, 0, none⟩) (.inl rfl) (.slice A l.length c)
 have hnm := h.names
 have hl : n = st.names.length ∧ (A = none → st.names = []) := by
  rcases hnm.2 with ⟨e, h0⟩ | ⟨q, cap, cur, e, -⟩
  ·injection e with e1 e2 e3
   exact ⟨by omega, fun _ => List.eq_nil_of_length_eq_zero h0⟩
  ·injection e with e1 e2 e3
   exact ⟨e2, fun e => by rw [e] at e1; cases e1⟩
 rw [hl.1, hn] at hnm
 have row := own_front (B := B) (n := (l ++ ds).length) hnm (fun e => by have := hl.2 e; rw [hn] at this; exact (List.append_eq_nil_iff.1 this).1)
 have nl := h.nlen
 rw [hn, List.length_append] at nl
 exact h.setG (st' := { st with names := l }) o (blkS h.blk _).1 row h.own h.loops h.apart (by show l.length ≤ st.ct; omega) h.ow h.d1 h.d2 h.l0 h.l1 h.max
theorem own_cap {w : World} {B z n m c : Nat} {ty : TypeId} {A : Option Addr} {ys : List Value} (h : w.ownsRow B ty z (.slice A m c) n ys) : n ≤ c := by
 rcases h.2 with ⟨e, h0⟩ | ⟨q, cap, cur, e, -, -, hn, -⟩
 ·omega
 ·injection e with e1 e2 e3
  omega
theorem len0_nil {t : X} {z : Nat} (h : t.len = 0) (r : ScM.row z t) : t = .nil := by
 cases t with
 | nil => rfl
 | cons a b => cases h
 | e => exact r.elim
 | f => exact r.elim
 | s => exact r.elim
 | blk => exact r.elim
set_option maxRecDepth 20000 in
set_option maxHeartbeats 8000000 in
/-- block. -/
theorem v_block {x : X} (hw : ScM.wf x) (hr : ScM.row 5 x) (hf : x.fit 100000) (H : ∀ y ∈ x.elems, VS y) : VB x := by
 intro t w B g os ls lo st P P2 v pv tv ps hlo ht hwt hrt hq hsl hP hps hP2 htv hc
 obtain ⟨A, c, rfl⟩ := slice_of hsl
 obtain ⟨At, ct, rfl⟩ := slice_of htv
 obtain ⟨Ap, cp, rfl⟩ := strs_slice hps
 obtain ⟨n, hn⟩ : ∃ n, x.len = n := ⟨_, rfl⟩
 obtain ⟨m, hm⟩ : ∃ m, t.len = m := ⟨_, rfl⟩
 rw [show (Value.slice A x.len c) = .slice A n c by rw [hn]] at hsl ⊢
 rw [show (Value.slice At t.len ct) = .slice At m ct by rw [hm]] at htv ⊢
 have HM := Lib.hid hm
 have AD := Lib.hid (fun (W : World) (k : Kv B w W) (q : VQ W B g os ls lo st) => v_add q (hps.kv k hP2) (by omega))
 have HQ := Lib.hid hq
 have HX := Lib.hid (fun (W : World) (k : Kv B w W) => hsl.kv k hP)
 have HT := Lib.hid (fun (W : World) (k : Kv B w W) => htv.kv k hP)
 have HS := Lib.hid H
 have HTE := Lib.hid ht
 have HW := Lib.hid hw
 have HN := Lib.hid hn
 have HP := Lib.hid hP
 have HLO := Lib.hid hlo
 have HC := Lib.hid hc
 have HWT := Lib.hid hwt
 have HRT := Lib.hid hrt
 have CT := Lib.hid (blkR_ct (ps := ps) hw hwt st)
 have hl := X.fit_len x hf
 rw [hn] at hl
 have n0 : (0 : Int) ≤ (n : Int) := by omega
 have n1 : (n : Int) ≤ 100000 := by omega
 obtain ⟨vn, vw, vl, h⟩ := hq
 have H1 := Lib.hid h
 obtain ⟨An, cn, rfl⟩ := own_shape h.names
 obtain ⟨pw, cw, rfl, hcw, ⟨x0, x1⟩, -⟩ := ir_shape h.own
 obtain ⟨⟨c0, c1, c2, c3, c4⟩, -⟩ := h.blk.five
 have k0 : (0 : Int) ≤ (st.names.length : Int) := by omega
 have k1 : (st.names.length : Int) ≤ 1000000000000 := by have := h.nlen; have := h.max; omega
 have w0 : (0 : Int) ≤ (st.own : Int) := by omega
 have w1 : (st.own : Int) ≤ 1000000000000 := by have := h.ow; have := h.max; omega
 have d0 : (0 : Int) ≤ (os.length : Int) := by omega
 have d1 : (os.length : Int) ≤ 1000000000000 := by have := h.d1; have := h.max; omega
 have e1 : ((os.length + 1 : Nat) : Int) - 1 = (os.length : Int) := by omega
 have e2 : (os.length : Int) < ((os.length + 1 : Nat) : Int) := by omega
 have hc1 : ((os.length + 1 : Nat) : Int) ≤ (cw : Int) := by omega
 have lc := (Sl.len htv).1
 have NL : At = none → m = 0 := fun e => by
  have := Sl.len htv
  have := this.2.2 e
  omega
 clear h hsl hps htv H ht hw hr hf hn hm hP hlo hc hwt hrt hl hcw hP2 lc
 go_enter Try.func20, Try.ntmps20
 go_wp2_with fail
 go_region
 all_goals
  have AD1 := Lib.hid (AD.out _ ((Kv.refl B w).drew) HQ.out.drew)
  go_wp2_with (go_at_call 43; refine AD1.out.mono ?_; rintro e w2 ⟨rfl, h2, k2⟩; have H2 := Lib.hid h2; have K2 := Lib.hid (((Kv.refl B w).drew).trans k2); clear h2 k2 x0 x1 c0 c1 c2 c3 c4)
  obtain ⟨st1, hst1⟩ : ∃ s, ScM.declare ps st = s := ⟨_, rfl⟩
  have LO1 := Lib.hid (show lo = (st1.loops : Int) by rw [HLO.out, ← hst1]; rfl)
  have HS1 := Lib.hid hst1
  rw [hst1] at H2
  have HC1 := Lib.hid (show st1.ct + (ScM.sz x + ScM.sz t) ≤ 1000000000000 by rw [← hst1]; show st.ct + ps.length + _ ≤ _; have := HC.out; omega)
  clear hst1
  go_loopw [10] (fun u10 wr => ∃ (i : Nat), u10 = .int .i64 (i : Int) ∧ i ≤ n ∧ VQ wr B g os ls lo (ScM.R x i st1) ∧ Kv B w wr) (fun u10 _ => (n : Int).toNat - (intOf u10).toNat)
  case atStart => exact ⟨0, rfl, Nat.zero_le _, H2.out, K2.out⟩
  case round =>
   obtain ⟨i, rfl, hi, hwk, hkp⟩ := hrel
   have KP := Lib.hid hkp
   have WQ2 := Lib.hid hwk
   have i0 : (0 : Int) ≤ (i : Int) := by omega
   have wri : wrap64 ((i : Int) + 1) = (i : Int) + 1 := by unfold wrap64; omega
   clear hwk hkp
   by_cases hlt : i < n
   ·obtain ⟨p, y, v0, v1, v2, v3, v4, rfl, hy, ⟨c0, c1, c2, c3, c4⟩, rd⟩ := Sl.at5 (HX.out _ KP.out) (by rw [HN.out]; exact hlt)
    obtain ⟨kk, a, ns, l, b, w2', w3, w4, rfl, he, sn, sl, sb⟩ := Rd.is_s rd rfl
    simp only [Array.mk.injEq, List.cons.injEq, and_true] at he
    obtain ⟨rfl, rfl, rfl, rfl, rfl⟩ := he
    obtain ⟨A2, d2, rfl⟩ := strs_slice sn
    obtain ⟨A3, d3, rfl⟩ := slice_of sl
    obtain ⟨A4, d4, rfl⟩ := slice_of sb
    have SY : VS (.s kk a ns l b) := HS.out _ (List.mem_of_getElem? hy)
    have RL := (ScM.R_ext (fun y hy => ScM.sem_ext y (ScM.wf_elems HW.out y hy)) st1 i).loops
    have C1 := Lib.hid (SY wr B g os ls lo _ P _ _ _ (by rw [RL]; exact LO1.out) WQ2.out sn sl sb HP.out (R_fit HW.out hy (by have := HC1.out; omega)))
    have SE := Lib.hid (ScM.R_succ hy st1)
    have LT := Lib.hid hlt
    have hl1 : (i : Int) < (n : Int) := by omega
    clear rd sn sl sb hy hlt hi SY RL
    go_wp2_with (go_at_call 44; refine C1.out.mono ?_; rintro e w5 ⟨rfl, h5, kp5⟩; have H5 := Lib.hid h5; have K5 := Lib.hid (KP.out.trans kp5); clear h5 kp5)
    refine ⟨⟨i + 1, ?_, LT.out, by rw [SE.out]; exact H5.out, K5.out⟩, ?_⟩
    ·first | rfl | exact congrArg (Value.int .i64) (wri.trans (by omega))
    ·have := LT.out; simp only [intOf]; omega
   ·have hl1 : ¬ (i : Int) < (n : Int) := by omega
    have RE1 := Lib.hid (ScM.R_end (x := x) (i := i) (by rw [HN.out]; omega) st1)
    have EX1 := ScM.R_ext (fun y hy => ScM.sem_ext y (ScM.wf_elems HW.out y hy)) st1 i
    have NM := Lib.hid (show (ScM.R x i st1).names = st.names ++ (ps ++ ScM.dcI x i) by rw [EX1.names, ← HS1.out]; exact List.append_assoc _ _ _)
    have CT2 := Lib.hid (show (ScM.R x i st1).ct + ScM.sz t ≤ 1000000000000 by have := EX1.ct; have := ScM.tot_le ScM.sz x.elems i; have := ScM.sum_sz x; have := HC1.out; omega)
    obtain ⟨s3, hs3⟩ : ∃ s, ScM.R x i st1 = s := ⟨_, rfl⟩
    rw [hs3] at NM CT2 WQ2 RE1
    clear hlt hi EX1 hs3
    by_cases hm0 : m = 0
    ·have q0 : ¬ (0 : Int) < (m : Int) := by omega
     have T0 := len0_nil (z := 7) (show t.len = 0 by rw [HM.out]; exact hm0) HRT.out
     have BE := Lib.hid (show ScM.runs (ScM.sem t).2 (ScM.runs (ScM.sem x).2 (ScM.declare ps st)) = s3 by rw [RE1.out, HS1.out, T0]; rfl)
     have NM4 := NM
     have K4 := KP
     obtain ⟨vn4, vw4, vl4, h4⟩ := WQ2.out
     clear hm0 T0
     obtain ⟨A4, c4', rfl⟩ := own_shape h4.names
     obtain ⟨p4, cw4, rfl, hcw4, -, -⟩ := ir_shape h4.own
     obtain ⟨⟨c0, c1, c2, c3, c4⟩, f0, f1, f2, f3, f4⟩ := h4.blk.five
     have g1 : (st.names.length : Int) ≤ (c4' : Int) := by
      have l7 := congrArg List.length NM4.out
      rw [List.length_append] at l7
      have := own_cap h4.names
      omega
     have g2 : ((os.length + 1 : Nat) : Int) ≤ (cw4 : Int) := by omega
     have E1 : (blkR ps t x st).err = (s3).err := (congrArg ScM.Sc.err BE.out : (ScM.runs (ScM.sem t).2 (ScM.runs (ScM.sem x).2 (ScM.declare ps st))).err = _)
     have E2 : (blkR ps t x st).at_ = (s3).at_ := (congrArg ScM.Sc.at_ BE.out : (ScM.runs (ScM.sem t).2 (ScM.runs (ScM.sem x).2 (ScM.declare ps st))).at_ = _)
     have E3 : (blkR ps t x st).ct = (s3).ct := (congrArg ScM.Sc.ct BE.out : (ScM.runs (ScM.sem t).2 (ScM.runs (ScM.sem x).2 (ScM.declare ps st))).ct = _)
     have kc := h4.cutN NM4.out
     obtain ⟨w9, hw9⟩ : ∃ W, wr.setCell ⟨g, 0, none⟩ (.slice A4 st.names.length c4') = W := ⟨_, rfl⟩
     rw [hw9] at kc
     have R9 := Lib.hid (kc.1.setOwn (st' := blkR ps t x st) rfl rfl E1 E2 (Nat.le_of_eq E3.symm) (by rw [E3]; exact kc.1.max) (by have := H1.out.ow; have := CT.out.2; show st.own ≤ (blkR ps t x st).ct; omega))
     have K9 := Lib.hid (K4.out.trans kc.2)
     have HW9 := Lib.hid hw9
     go_wp2_with fail
     have kd := kc.1
     clear c0 c1 c2 c3 c4 f0 f1 f2 f3 f4 h4 hcw4 hw9 kc E1 E2 E3
     obtain ⟨p5, cw5, e5, -, ⟨x0, x1⟩, -⟩ := ir_shape kd.own
     injection e5 with i1 i2 i3
     injection i1 with i1
     injection i1 with i1
     subst i1 i3
     obtain ⟨⟨c0, c1, c2, c3, c4⟩, f0, f1, f2, f3, f4⟩ := kd.blk.five
     clear i2 kd
     go_region
     all_goals
      go_wp2_with fail
      go_end0
      exact ⟨rfl, ⟨_, _, _, R9.out.1.drew⟩, K9.out.trans R9.out.2.drew⟩
    ·have q0 : (0 : Int) < (m : Int) := by omega
     obtain ⟨vn3, vw3, vl3, h3⟩ := WQ2.out
     have H3 := Lib.hid h3
     obtain ⟨p3, cl3, rfl, hcl3, ⟨x0, x1⟩, -⟩ := ir_shape h3.loops
     obtain ⟨⟨c0, c1, c2, c3, c4⟩, f0, f1, f2, f3, f4⟩ := h3.blk.five
     have g1 : ((ls.length + 1 : Nat) : Int) ≤ (cl3 : Int) := by omega
     have l0 : (0 : Int) ≤ (ls.length : Int) := by omega
     have l1 : (ls.length : Int) ≤ 1000000000000 := by have := h3.d2; have := h3.max; omega
     have l2 : ((ls.length + 1 : Nat) : Int) - 1 = (ls.length : Int) := by omega
     have l3 : (ls.length : Int) < ((ls.length + 1 : Nat) : Int) := by omega
     have l4 : -1 ≤ lo := h3.l0
     have l5 : lo ≤ 1000000000000 := by have := h3.l1; have := h3.max; omega
     have l6 : (0 : Int) ≤ lo := by rw [LO1.out]; exact Int.natCast_nonneg _
     have r := h3.setLoops (st' := s3) rfl (lo - 1) rfl rfl rfl rfl (Nat.le_refl _) h3.max ⟨by omega, by have := h3.l1; omega⟩
     obtain ⟨w6, hw6⟩ : ∃ W, wr.setCell ⟨p3, ls.length, none⟩ (.int .i64 (lo - 1)) = W := ⟨_, rfl⟩
     rw [hw6] at r
     have K6 := Lib.hid (KP.out.trans r.2.drew)
     have C6 := Lib.hid (HTE.out w6.drew B g os ls (lo - 1) s3 _ _ ⟨_, _, _, r.1.drew⟩ (by have := HT.out _ K6.out; rw [← HM.out] at this; exact this) HP.out CT2.out)
     have HW6 := Lib.hid hw6
     have CE := Lib.hid (ScM.R_calm_all (fun y hy => ScM.sem_ext y (ScM.wf_elems HWT.out y hy)) HRT.out (.inl rfl) s3)
     rw [HM.out] at C6
     clear h3 hcl3 hw6 hm0 r
     go_wp2_with fail
     go_region
     all_goals
      rw [HW6.out]
      clear x0 x1 c0 c1 c2 c3 c4 f0 f1 f2 f3 f4
      go_wp2_with (go_at_call 45; refine C6.out.mono ?_; rintro e w7 ⟨rfl, ⟨vn7, vw7, vl7, h7⟩, k7⟩; have H7 := Lib.hid h7; obtain ⟨p7, cl7, rfl, hcl7, ⟨x0, x1⟩, -⟩ := ir_shape h7.loops; obtain ⟨⟨c0, c1, c2, c3, c4⟩, f0, f1, f2, f3, f4⟩ := h7.blk.five; have K7 := Lib.hid (K6.out.trans k7); have g3 : ((ls.length + 1 : Nat) : Int) ≤ (cl7 : Int) := (by omega); clear h7 k7 hcl7)
      have l7 : lo - 1 + 1 = lo := by omega
      have r := H7.out.setLoops (st' := ScM.runs (ScM.sem t).2 s3) rfl lo rfl rfl rfl rfl (Nat.le_refl _) H7.out.max ⟨l4, by have := H3.out.l1; have := CE.out.lo; omega⟩
      obtain ⟨w8, hw8⟩ : ∃ W, w7.setCell ⟨p7, ls.length, none⟩ (.int .i64 lo) = W := ⟨_, rfl⟩
      rw [hw8] at r
      have R8 := Lib.hid r
      have HW8 := Lib.hid hw8
      clear hw8 r
      go_region
      all_goals
       rw [HW8.out]
       clear x0 x1 c0 c1 c2 c3 c4 f0 f1 f2 f3 f4
       have BE := Lib.hid (show ScM.runs (ScM.sem t).2 (ScM.runs (ScM.sem x).2 (ScM.declare ps st)) = ScM.runs (ScM.sem t).2 s3 by rw [RE1.out, HS1.out])
       have NM4 := Lib.hid (show (ScM.runs (ScM.sem t).2 s3).names = st.names ++ (ps ++ ScM.dcI x i) by rw [CE.out.names, List.append_nil]; exact NM.out)
       have K4 := Lib.hid (K7.out.trans R8.out.2)
       have h4 := R8.out.1
       obtain ⟨A4, c4', rfl⟩ := own_shape h4.names
       obtain ⟨p4, cw4, rfl, hcw4, -, -⟩ := ir_shape h4.own
       obtain ⟨⟨c0, c1, c2, c3, c4⟩, f0, f1, f2, f3, f4⟩ := h4.blk.five
       have g1 : (st.names.length : Int) ≤ (c4' : Int) := by
        have l7 := congrArg List.length NM4.out
        rw [List.length_append] at l7
        have := own_cap h4.names
        omega
       have g2 : ((os.length + 1 : Nat) : Int) ≤ (cw4 : Int) := by omega
       have E1 : (blkR ps t x st).err = (ScM.runs (ScM.sem t).2 s3).err := (congrArg ScM.Sc.err BE.out : (ScM.runs (ScM.sem t).2 (ScM.runs (ScM.sem x).2 (ScM.declare ps st))).err = _)
       have E2 : (blkR ps t x st).at_ = (ScM.runs (ScM.sem t).2 s3).at_ := (congrArg ScM.Sc.at_ BE.out : (ScM.runs (ScM.sem t).2 (ScM.runs (ScM.sem x).2 (ScM.declare ps st))).at_ = _)
       have E3 : (blkR ps t x st).ct = (ScM.runs (ScM.sem t).2 s3).ct := (congrArg ScM.Sc.ct BE.out : (ScM.runs (ScM.sem t).2 (ScM.runs (ScM.sem x).2 (ScM.declare ps st))).ct = _)
       have kc := h4.cutN NM4.out
       obtain ⟨w9, hw9⟩ : ∃ W, w8.setCell ⟨g, 0, none⟩ (.slice A4 st.names.length c4') = W := ⟨_, rfl⟩
       rw [hw9] at kc
       have R9 := Lib.hid (kc.1.drew.setOwn (st' := blkR ps t x st) rfl rfl E1 E2 (Nat.le_of_eq E3.symm) (by rw [E3]; exact kc.1.max) (by have := H1.out.ow; have := CT.out.2; show st.own ≤ (blkR ps t x st).ct; omega))
       have K9 := Lib.hid (K4.out.trans kc.2.drew)
       have HW9 := Lib.hid hw9
       go_wp2_with fail
       have kd := kc.1.drew
       clear c0 c1 c2 c3 c4 f0 f1 f2 f3 f4 h4 hcw4 hw9 kc E1 E2 E3
       obtain ⟨p5, cw5, e5, -, ⟨x0, x1⟩, -⟩ := ir_shape kd.own
       injection e5 with i1 i2 i3
       injection i1 with i1
       injection i1 with i1
       subst i1 i3
       obtain ⟨⟨c0, c1, c2, c3, c4⟩, f0, f1, f2, f3, f4⟩ := kd.blk.five
       clear i2 kd
       go_region
       all_goals
        go_wp2_with fail
        go_end0
        exact ⟨rfl, ⟨_, _, _, R9.out.1.drew⟩, K9.out.trans R9.out.2.drew⟩
end Go.Proofs.Yteakhlnnepjhpaa
