/- Package scope: the walker: scopes, exp, parts, cases, repeat. -/
import Derived.Test.YteakhlnnepjhpaaScGx
namespace Go.Proofs.Yteakhlnnepjhpaa
open Go.RowKit PrM
set_option linter.unusedVariables false
set_option linter.unusedSimpArgs false
theorem RS_fit {x l : X} {i : Nat} {st : ScM.Sc} {k : Int} {ps : List ByteArray} (hw : ScM.wf x) (hr : ScM.row 1 x) (h : x.elems[i]? = some (.blk l)) (hc : st.ct + (ScM.sz x + x.len * (1 + ps.length)) ≤ 1000000000000) : (ScM.RS k ps x i st).ct + (1 + ps.length + ScM.sz l) ≤ 1000000000000 := by
 have e := ScM.RS_ext (fun y hy => ScM.sem_ext y (ScM.wf_elems hw y hy)) hr k ps st i
 have := e.ct
 have t := ScM.tot_succ (f := fun y => 1 + ps.length + ScM.sz y) h
 have := ScM.tot_le (fun y => 1 + ps.length + ScM.sz y) x.elems (i + 1)
 have := ScM.sum_blk ps.length x
 simp only [ScM.sz] at t
 omega
set_option maxRecDepth 20000 in
set_option maxHeartbeats 4000000 in
/-- scopes. -/
theorem scopes_row {x : X} (hw : ScM.wf x) (hr : ScM.row 1 x) (hf : x.fit 100000) (H : ∀ y ∈ x.elems, ScQ y) : GB x := by
 intro w B g S st P v k ps pv hk h hP hnm hsz hkk hc
 obtain ⟨A, c, rfl⟩ : ∃ A c, v = .slice A x.len c := by obtain ⟨A, c, e, -⟩ := h; exact ⟨A, c, e⟩
 obtain ⟨n, hn⟩ : ∃ n, x.len = n := ⟨_, rfl⟩
 rw [show (Value.slice A x.len c) = .slice A n c by rw [hn]] at h ⊢
 obtain ⟨A2, c2, rfl⟩ := hnm.nms.slice
 have HX := Lib.hid h
 have HQ := Lib.hid (fun y hy => H y hy (ScM.wf_elems hw y hy) (fit_el x hf y hy))
 have HWE := Lib.hid (fun y hy => ScM.wf_elems hw y hy)
 have HW := Lib.hid hw
 have HR := Lib.hid hr
 have HN := Lib.hid hn
 have HP := Lib.hid hP
 have HC := Lib.hid hc
 have HK := Lib.hid hk
 have HNM := Lib.hid hnm
 have HSZ := Lib.hid hsz
 have HKK := Lib.hid hkk
 have hl := X.fit_len x hf
 rw [hn] at hl
 have n0 : (0 : Int) ≤ (n : Int) := by omega
 have n1 : (n : Int) ≤ 100000 := by omega
 clear h H hw hf hn hP hc hk hl hnm hsz hkk hr
 go_enter Try.func66, Try.ntmps66
 go_wp2_with fail
 go_loopw [9, 12] (fun u9 u12 wr => ∃ (i : Nat) (v : Value), u9 = v ∧ u12 = .int .i64 (i : Int) ∧ i ≤ n ∧ WK wr B g S (ScM.RS k ps x i st) ∧ Kp B true w wr) (fun _ u12 _ => (n : Int).toNat - (intOf u12).toNat)
 case atStart => exact ⟨0, undef, rfl, rfl, Nat.zero_le _, HK.out, Kp.refl _ _ _⟩
 case round =>
  obtain ⟨i, v, rfl, rfl, hi, hwk, hkp⟩ := hrel
  have WK1 := Lib.hid hwk
  have KP := Lib.hid hkp
  have i0 : (0 : Int) ≤ (i : Int) := by omega
  have wri : wrap64 ((i : Int) + 1) = (i : Int) + 1 := by unfold wrap64; omega
  clear hwk hkp
  by_cases hlt : i < n
  ·obtain ⟨p, y, v0, rfl, hy, c0, rd⟩ := Sl.at1 (HX.out.kp KP.out HP.out) (by rw [HN.out]; exact hlt)
   rw [Nat.mul_one] at c0
   obtain ⟨l, w0, rfl, he, sl⟩ := Rd.is_b rd rfl
   simp only [Array.mk.injEq, List.cons.injEq, and_true] at he
   subst he
   obtain ⟨A5, d5, rfl⟩ : ∃ A c, v0 = .slice A l.len c := by obtain ⟨A, c, e, -⟩ := sl; exact ⟨A, c, e⟩
   have C1 := Lib.hid (scope_s (HQ.out _ (List.mem_of_getElem? hy)) (HWE.out _ (List.mem_of_getElem? hy)).2 WK1.out sl HP.out (HNM.out.kp KP.out).nms HSZ.out HKK.out (RS_fit HW.out HR.out hy HC.out))
   rw [← ScM.RS_succ hy] at C1
   have LT := Lib.hid hlt
   have hl1 : (i : Int) < (n : Int) := by omega
   clear rd sl hy hlt hi
   go_wp2_with (go_at_call 19; refine C1.out.mono ?_; rintro e w1 ⟨rfl, h1, kp1⟩; have H1 := Lib.hid h1; have K1 := Lib.hid (KP.out.trans kp1); clear h1 kp1)
   refine ⟨⟨i + 1, _, rfl, ?_, LT.out, H1.out, K1.out⟩, ?_⟩
   ·first | rfl | exact congrArg (Value.int .i64) (wri.trans (by omega))
   ·have := LT.out; simp only [intOf]; omega
  ·have hl1 : ¬ (i : Int) < (n : Int) := by omega
   have RE1 := Lib.hid (ScM.RS_end (k := k) (ps := ps) (x := x) (i := i) (by rw [HN.out]; omega) st)
   clear hlt hi
   go_wp2_with fail
   go_end0
   have k := WK1.out
   rw [RE1.out] at k
   exact ⟨rfl, k, KP.out⟩
set_option maxRecDepth 20000 in
set_option maxHeartbeats 4000000 in
/-- parts. -/
theorem parts_s {l b : X} (hl : GE l) (hb : GB b) (wl : ScM.wf l) (rl : ScM.row 7 l) {w : World} {B g : Nat} {S : List It} {st : ScM.Sc} {P : Nat → Prop} {k a : Int} {vn vl vb : Value} (hk : WK w B g S st) (sl : Sl l.len (Rd w P l).row 7 vl) (sb : Sl b.len (Rd w P b).row 1 vb) (hP : ∀ q, P q → q < B) (hc : st.ct + (ScM.sz l + (ScM.sz b + b.len * 1)) ≤ 1000000000000) (shn : ∃ A n c, vn = .slice A n c) :
  Calls Try.prog 62 #[.pointer (some ⟨g, 0, none⟩), .agg (SC5 k a vn vl vb)] w (WP w B g S (ScM.parts (ScM.sem l).2 (ScM.sem b).2 st)) := by
 obtain ⟨An, nn, cn, rfl⟩ := shn
 obtain ⟨Al, cl, rfl⟩ : ∃ A c, vl = .slice A l.len c := by obtain ⟨A, c, e, -⟩ := sl; exact ⟨A, c, e⟩
 obtain ⟨Ab, cb, rfl⟩ : ∃ A c, vb = .slice A b.len c := by obtain ⟨A, c, e, -⟩ := sb; exact ⟨A, c, e⟩
 have AL := Lib.hid (Kp.of_below (b := true) ((Below.refl w.heap.size w).alloc (Nat.le_refl _) (SB k a (.slice An nn cn) (.slice Al l.len cl) (.slice Ab b.len cb))) hk.base)
 have BX := Lib.hid (Blk.new w (SC5 k a (.slice An nn cn) (.slice Al l.len cl) (.slice Ab b.len cb)) 42)
 obtain ⟨⟨b0, b1, b2, b3, b4⟩, -⟩ := BX.out.five
 have C1 := Lib.hid (hl _ B g S st P _ (hk.keep ((Below.refl w.heap.size w).alloc (Nat.le_refl _) (SB k a (.slice An nn cn) (.slice Al l.len cl) (.slice Ab b.len cb)))) (sl.kp AL.out hP) hP (by omega))
 have E1 := Lib.hid (ScM.R_calm_all (fun y hy => ScM.sem_ext y (ScM.wf_elems wl y hy)) rl (.inl rfl) st)
 have SBB := Lib.hid sb
 have HP := Lib.hid hP
 have HC := Lib.hid hc
 have C2 := Lib.hid (fun (w1 : World) (kp : Kp B true w w1) (h1 : WK w1 B g S (ScM.runs (ScM.sem l).2 st)) => hb w1 B g S _ P _ 1 [] _ h1 (SBB.out.kp kp HP.out) HP.out (nmt_nil w1 B) (fun p hp => nomatch hp) (.inl rfl) (by have := E1.out.ct; have := HC.out; show _ + (_ + b.len * 1) ≤ _; omega))
 clear hk sl sb hP hc hl hb wl rl
 go_enter Try.func62, Try.ntmps62
 go_wp2_with (first
  |(go_at_call 65; refine C1.out.mono ?_; rintro e w1 ⟨rfl, h1, kp1⟩; have D2 := Lib.hid (C2.out w1 (AL.out.trans kp1) h1); have K1 := Lib.hid (AL.out.trans kp1); have BX1 := Lib.hid (kp1.blk _ _ _ BX.out (by decide) (by decide) (fun _ => by decide)); clear h1 kp1 b0 b1 b2 b3 b4; obtain ⟨⟨b0, b1, b2, b3, b4⟩, -⟩ := BX1.out.five)
  |(go_at_call 66; refine D2.out.mono ?_; rintro e w2 ⟨rfl, h2, kp2⟩; have H2 := Lib.hid h2; have K2 := Lib.hid (K1.out.trans kp2); clear h2 kp2))
 go_end0
 exact ⟨rfl, H2.out, K2.out⟩
end Go.Proofs.Yteakhlnnepjhpaa
