/- Package scope: the walker: exp. -/
import Derived.Test.YteakhlnnepjhpaaScHx
namespace Go.Proofs.Yteakhlnnepjhpaa
open Go.RowKit PrM
set_option linter.unusedVariables false
set_option linter.unusedSimpArgs false
abbrev EC7 (k a n : Int) (s : ByteArray) (op : Int) (v5 v6 : Value) : Array Value := #[.int .i64 k, .int .i64 a, .int .i64 n, .string s, .int .i64 op, v5, v6]
abbrev EB (k a n : Int) (s : ByteArray) (op : Int) (v5 v6 : Value) : Obj := .cells (EC7 k a n s op v5 v6) 39
def expSt (k : Int) (s : ByteArray) (a : Int) (st : ScM.Sc) : ScM.Sc := if k = 6 then ScM.use s a st else st
theorem expSt_ext (k : Int) (s : ByteArray) (a : Int) (st : ScM.Sc) : ScM.Ext [] 1 st (expSt k s a st) := by
 unfold expSt
 split
 ·exact ScM.use_ext _ _ _
 ·exact (ScM.Ext.refl _).wide (by omega)
set_option maxRecDepth 20000 in
set_option maxHeartbeats 4000000 in
theorem exp_step (k a n : Int) (s : ByteArray) (op : Int) (l f : X) (hl : ∀ y ∈ l.elems, ScQ y) (hf : ∀ y ∈ f.elems, ScQ y) : ScQ (.e k a n s op l f) := by
 intro hw fit w B g S st P v5 v6 hk h5 h6 hP hc
 obtain ⟨A5, d5, rfl⟩ : ∃ A c, v5 = .slice A l.len c := by obtain ⟨A, c, e, -⟩ := h5; exact ⟨A, c, e⟩
 obtain ⟨A6, d6, rfl⟩ : ∃ A c, v6 = .slice A f.len c := by obtain ⟨A, c, e, -⟩ := h6; exact ⟨A, c, e⟩
 obtain ⟨m, hm⟩ : ∃ m, f.len = m := ⟨_, rfl⟩
 have HQ := Lib.hid (fun y hy => hf y hy (ScM.wf_elems hw.2.2.2 y hy) (fit_el f fit.1.2 y hy))
 have HWE := Lib.hid (fun y hy => ScM.wf_elems hw.2.2.2 y hy)
 have HFE := Lib.hid (fun y hy => fit_el f fit.1.2 y hy)
 have HW := Lib.hid hw
 have HX := Lib.hid h6
 have HP := Lib.hid hP
 have HM := Lib.hid hm
 have hsz : ScM.sz (.e k a n s op l f) = 1 + ScM.sz l + ScM.sz f := rfl
 have fl := X.fit_len f fit.1.2
 rw [hm] at fl
 have m0 : (0 : Int) ≤ (m : Int) := by omega
 have m1 : (m : Int) ≤ 100000 := by omega
 have bl := (Below.refl w.heap.size w).alloc (Nat.le_refl _) (EB k a n s op (.slice A5 l.len d5) (.slice A6 f.len d6))
 have AL := Lib.hid (Kp.of_below (b := true) bl hk.base)
 have BX := Lib.hid (Blk.new w (EC7 k a n s op (.slice A5 l.len d5) (.slice A6 f.len d6)) 39)
 have HS : s.size ≤ maxLen := Nat.le_trans fit.2 (by decide)
 have US := Lib.hid (use_s (hk.keep bl) k a n op s (.slice A5 l.len d5) (.slice A6 f.len d6) HS (by rw [hsz] at hc; omega))
 have E1 := Lib.hid (expSt_ext k s a st)
 have GL := Lib.hid (exps_row hw.2.2.1 fit.1.1 hl)
 have C1 := Lib.hid (fun (w1 : World) (kp : Kp B true w w1) (h1 : WK w1 B g S (expSt k s a st)) => GL.out w1 B g S _ P _ h1 (h5.kp kp hP) hP (by have := E1.out.ct; rw [hsz] at hc; omega))
 have E2 := Lib.hid (ScM.R_calm_all (fun y hy => ScM.sem_ext y (ScM.wf_elems hw.2.2.1 y hy)) hw.1 (.inl rfl) (expSt k s a st))
 obtain ⟨st2, hst2⟩ : ∃ st2, ScM.runs (ScM.sem l).2 (expSt k s a st) = st2 := ⟨_, rfl⟩
 have HC := Lib.hid (show st2.ct + ScM.sz f ≤ 1000000000000 by rw [← hst2]; have := E1.out.ct; have := E2.out.ct; rw [hsz] at hc; omega)
 have SE := Lib.hid (show (ScM.sem (.e k a n s op l f)).1 st = ScM.runs (ScM.sem f).2 st2 by rw [← hst2]; rfl)
 rw [hst2] at C1
 obtain ⟨⟨b0, b1, b2, b3, b4, b5, b6⟩, -⟩ := BX.out.seven
 rw [hm] at b6
 have WK0 := Lib.hid (hk.keep bl)
 have EK := Lib.hid (show ∀ e : k = 6, expSt k s a st = ScM.use s a st from fun e => if_pos e)
 have EN := Lib.hid (show ∀ e : ¬ k = 6, expSt k s a st = st from fun e => if_neg e)
 clear hl hf hw fit hk h5 h6 hP hc hm fl bl hst2 HS hsz
 go_enter Try.func72, Try.ntmps72
 by_cases q : k = 6
 ·have q1 : (k == 6) = true := by rw [q]; rfl
  have HQ6 := Lib.hid (EK.out q)
  clear q
  go_wp2_with (first
   |(go_at_call 74; refine US.out.mono ?_; rintro e w1 ⟨rfl, h1, kp1⟩; have D1 := Lib.hid (C1.out w1 (AL.out.trans kp1) (by rw [HQ6.out]; exact h1)); have K1 := Lib.hid (AL.out.trans kp1); have BX1 := Lib.hid (kp1.blk _ _ _ BX.out (by decide) (by decide) (fun _ => by decide)); clear h1 kp1 b0 b1 b2 b3 b4 b5 b6; obtain ⟨⟨b0, b1, b2, b3, b4, b5, b6⟩, -⟩ := BX1.out.seven; rw [HM.out] at b6)
   |(go_at_call 65; refine D1.out.mono ?_; rintro e w2 ⟨rfl, h2, kp2⟩; have H2 := Lib.hid h2; have K2 := Lib.hid (K1.out.trans kp2); have BX2 := Lib.hid (kp2.blk _ _ _ BX1.out (by decide) (by decide) (fun _ => by decide)); clear h2 kp2 b0 b1 b2 b3 b4 b5 b6; obtain ⟨⟨b0, b1, b2, b3, b4, b5, b6⟩, -⟩ := BX2.out.seven; rw [HM.out] at b6))
  go_loopw [5, 19] (fun u5 u19 wr => ∃ (i : Nat) (v : Value), u5 = v ∧ u19 = .int .i64 (i : Int) ∧ i ≤ m ∧ WK wr B g S (ScM.R f i st2) ∧ Kp B true w wr) (fun _ u19 _ => (m : Int).toNat - (intOf u19).toNat)
  case atStart => exact ⟨0, undef, rfl, rfl, Nat.zero_le _, H2.out, K2.out⟩
  case round =>
   obtain ⟨i, v, rfl, rfl, hi, hwk, hkp⟩ := hrel
   have WK1 := Lib.hid hwk
   have KP := Lib.hid hkp
   have i0 : (0 : Int) ≤ (i : Int) := by omega
   have wri : wrap64 ((i : Int) + 1) = (i : Int) + 1 := by unfold wrap64; omega
   clear hwk hkp b0 b1 b2 b3 b4 b5 b6
   by_cases hlt : i < m
   ·obtain ⟨p, y, v0, v1, rfl, hy, ⟨c0, c1⟩, rd⟩ := Sl.at2 (HX.out.kp KP.out HP.out) (by rw [HM.out]; exact hlt)
    obtain ⟨ps, bd, w0, w1, rfl, he, sn, sb⟩ := Rd.is_f rd rfl
    simp only [Array.mk.injEq, List.cons.injEq, and_true] at he
    obtain ⟨rfl, rfl⟩ := he
    obtain ⟨A7, d7, rfl⟩ : ∃ A c, v0 = .slice A ps.length c := by obtain ⟨A, c, e, -⟩ := sn; exact ⟨A, c, e⟩
    obtain ⟨A8, d8, rfl⟩ : ∃ A c, v1 = .slice A bd.len c := by obtain ⟨A, c, e, -⟩ := sb; exact ⟨A, c, e⟩
    have AL2 := Lib.hid (Kp.of_below (b := true) ((Below.refl wr.heap.size wr).alloc (Nat.le_refl _) (.cells #[.slice A7 ps.length d7, .slice A8 bd.len d8] 36)) WK1.out.base)
    have hfy := (HFE.out _ (List.mem_of_getElem? hy)).2
    have D1 := Lib.hid (scope_s (HQ.out _ (List.mem_of_getElem? hy)) (HWE.out _ (List.mem_of_getElem? hy)).2 (k := 3) (ps := ps) (WK1.out.keep ((Below.refl wr.heap.size wr).alloc (Nat.le_refl _) (.cells #[.slice A7 ps.length d7, .slice A8 bd.len d8] 36))) (sb.kp AL2.out HP.out) HP.out ((sn.kp AL2.out HP.out).nms HP.out) (fun q hq => Nat.le_trans (hfy q hq) (by decide)) (.inr (.inr rfl)) (by have := R_fit HW.out.2.2.2 hy HC.out; simp only [ScM.sz] at this; omega))
    have RS1 := Lib.hid (ScM.R_succ hy st2)
    have LT := Lib.hid hlt
    have hl1 : (i : Int) < (m : Int) := by omega
    clear rd sn sb hy hlt hi hfy
    go_wp2_with (go_at_call 19; refine D1.out.mono ?_; rintro e w3 ⟨rfl, h3, kp3⟩; have H3 := Lib.hid h3; have K3 := Lib.hid (KP.out.trans (AL2.out.trans kp3)); clear h3 kp3)
    refine ⟨⟨i + 1, _, rfl, ?_, LT.out, by rw [RS1.out]; exact H3.out, K3.out⟩, ?_⟩
    ·first | rfl | exact congrArg (Value.int .i64) (wri.trans (by omega))
    ·have := LT.out; simp only [intOf]; omega
   ·have hl1 : ¬ (i : Int) < (m : Int) := by omega
    have RE1 := Lib.hid (ScM.R_end (x := f) (i := i) (by rw [HM.out]; omega) st2)
    clear hlt hi
    go_wp2_with fail
    go_end0
    have k := WK1.out
    rw [RE1.out] at k
    rw [SE.out]
    exact ⟨rfl, k, KP.out⟩
 ·have q1 : (k == 6) = false := by simpa using q
  have D1 := Lib.hid (C1.out _ AL.out (by rw [EN.out q]; exact WK0.out))
  clear q
  go_wp2_with (go_at_call 65; refine D1.out.mono ?_; rintro e w2 ⟨rfl, h2, kp2⟩; have H2 := Lib.hid h2; have K2 := Lib.hid (AL.out.trans kp2); have BX2 := Lib.hid (kp2.blk _ _ _ BX.out (by decide) (by decide) (fun _ => by decide)); clear h2 kp2 b0 b1 b2 b3 b4 b5 b6; obtain ⟨⟨b0, b1, b2, b3, b4, b5, b6⟩, -⟩ := BX2.out.seven; rw [HM.out] at b6)
  go_loopw [5, 19] (fun u5 u19 wr => ∃ (i : Nat) (v : Value), u5 = v ∧ u19 = .int .i64 (i : Int) ∧ i ≤ m ∧ WK wr B g S (ScM.R f i st2) ∧ Kp B true w wr) (fun _ u19 _ => (m : Int).toNat - (intOf u19).toNat)
  case atStart => exact ⟨0, undef, rfl, rfl, Nat.zero_le _, H2.out, K2.out⟩
  case round =>
   obtain ⟨i, v, rfl, rfl, hi, hwk, hkp⟩ := hrel
   have WK1 := Lib.hid hwk
   have KP := Lib.hid hkp
   have i0 : (0 : Int) ≤ (i : Int) := by omega
   have wri : wrap64 ((i : Int) + 1) = (i : Int) + 1 := by unfold wrap64; omega
   clear hwk hkp b0 b1 b2 b3 b4 b5 b6
   by_cases hlt : i < m
   ·obtain ⟨p, y, v0, v1, rfl, hy, ⟨c0, c1⟩, rd⟩ := Sl.at2 (HX.out.kp KP.out HP.out) (by rw [HM.out]; exact hlt)
    obtain ⟨ps, bd, w0, w1, rfl, he, sn, sb⟩ := Rd.is_f rd rfl
    simp only [Array.mk.injEq, List.cons.injEq, and_true] at he
    obtain ⟨rfl, rfl⟩ := he
    obtain ⟨A7, d7, rfl⟩ : ∃ A c, v0 = .slice A ps.length c := by obtain ⟨A, c, e, -⟩ := sn; exact ⟨A, c, e⟩
    obtain ⟨A8, d8, rfl⟩ : ∃ A c, v1 = .slice A bd.len c := by obtain ⟨A, c, e, -⟩ := sb; exact ⟨A, c, e⟩
    have AL2 := Lib.hid (Kp.of_below (b := true) ((Below.refl wr.heap.size wr).alloc (Nat.le_refl _) (.cells #[.slice A7 ps.length d7, .slice A8 bd.len d8] 36)) WK1.out.base)
    have hfy := (HFE.out _ (List.mem_of_getElem? hy)).2
    have D1 := Lib.hid (scope_s (HQ.out _ (List.mem_of_getElem? hy)) (HWE.out _ (List.mem_of_getElem? hy)).2 (k := 3) (ps := ps) (WK1.out.keep ((Below.refl wr.heap.size wr).alloc (Nat.le_refl _) (.cells #[.slice A7 ps.length d7, .slice A8 bd.len d8] 36))) (sb.kp AL2.out HP.out) HP.out ((sn.kp AL2.out HP.out).nms HP.out) (fun q hq => Nat.le_trans (hfy q hq) (by decide)) (.inr (.inr rfl)) (by have := R_fit HW.out.2.2.2 hy HC.out; simp only [ScM.sz] at this; omega))
    have RS1 := Lib.hid (ScM.R_succ hy st2)
    have LT := Lib.hid hlt
    have hl1 : (i : Int) < (m : Int) := by omega
    clear rd sn sb hy hlt hi hfy
    go_wp2_with (go_at_call 19; refine D1.out.mono ?_; rintro e w3 ⟨rfl, h3, kp3⟩; have H3 := Lib.hid h3; have K3 := Lib.hid (KP.out.trans (AL2.out.trans kp3)); clear h3 kp3)
    refine ⟨⟨i + 1, _, rfl, ?_, LT.out, by rw [RS1.out]; exact H3.out, K3.out⟩, ?_⟩
    ·first | rfl | exact congrArg (Value.int .i64) (wri.trans (by omega))
    ·have := LT.out; simp only [intOf]; omega
   ·have hl1 : ¬ (i : Int) < (m : Int) := by omega
    have RE1 := Lib.hid (ScM.R_end (x := f) (i := i) (by rw [HM.out]; omega) st2)
    clear hlt hi
    go_wp2_with fail
    go_end0
    have k := WK1.out
    rw [RE1.out] at k
    rw [SE.out]
    exact ⟨rfl, k, KP.out⟩
end Go.Proofs.Yteakhlnnepjhpaa
