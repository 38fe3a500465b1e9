/- The document's own Outer: block. -/
import Derived.Test.YteakhlnnepjhpaaSdDx
import Derived.Test.YteakhlnnepjhpaaSdEx
import Derived.Test.YteakhlnnepjhpaaTkBx
namespace Go.Proofs.Yteakhlnnepjhpaa
open Go.RowKit PrM
set_option linter.unusedVariables false
set_option linter.unusedSimpArgs false
theorem Ko.one {w w' : World} {B g : Nat} {cs : Array Value} (o : Only (fun b => b = g) w w') (k : Blk w g cs 72) (hg : B ≤ g) : Ko B w w' :=
 ⟨o.below (fun n e => by omega) (by have := k.lt; omega), fun q cs' ty a x _ => by
  refine (o.block q a.lt fun e => ?_).trans a
  subst e
  have a : w.heap[q]? = _ := a
  have k : w.heap[q]? = _ := k
  rw [a] at k
  injection k with k
  injection k with _ k
  exact x k⟩
theorem WO.len {w : World} {B g n c : Nat} {A : Option Addr} {vo : Value} {st : ScM.Sc} (h : WO w B g (.slice A n c) vo st) : n = st.names.length ∧ n ≤ c ∧ (A = none → st.names = []) := by
 have h1 := h.names
 rcases h1.2 with ⟨e, h0⟩ | ⟨p, cap, cur, e, hp, hb, hn, r⟩
 ·injection e with e1 e2 e3
  exact ⟨by omega, by omega, fun _ => List.eq_nil_of_length_eq_zero h0⟩
 ·injection e with e1 e2 e3
  exact ⟨e2, by omega, fun e => by rw [e] at e1; cases e1⟩
theorem WO.cut {w : World} {B g n c : Nat} {A : Option Addr} {vo : Value} {st st' : ScM.Sc} {l ds : List ByteArray} (h : WO w B g (.slice A n c) vo st) (hn : st.names = l ++ ds) (e1 : st'.names = l) (e2 : st'.outer = st.outer) (e3 : st'.ct = st.ct) :
  WQ (w.setCell ⟨g, 0, none⟩ (.slice A l.length c)) B g st' ∧ Ko B w (w.setCell ⟨g, 0, none⟩ (.slice A l.length c)) := by
 have o := (Only.refl (fun b => b = g) w).setCell (p := ⟨g, 0, none⟩) (.inl rfl) (.slice A l.length c)
 obtain ⟨hl, hc, h0⟩ := h.len
 have hnm := h.names
 rw [hl] at hnm
 rw [← hl, hn] at hnm
 have row : w.ownsRow B 9 1 (.slice A l.length c) l.length (l.map .string) := own_front (n := n) (ds := ds) (by rw [hl, hn] at *; exact hnm) (fun e => by have := h0 e; rw [hn] at this; exact (List.append_eq_nil_iff.1 this).1)
 refine ⟨⟨_, _, blkO0 h.blk _, ?_, ?_, (fun q e => h.apart q (by cases A with | none => exact e | some a => exact e)), h.hg, ?_, by rw [e2, e3]; exact h.olen, by rw [e3]; exact h.max⟩, Ko.one o h.blk h.hg⟩
 ·rw [e1]
  exact own_same row fun q e => o.block q (own_lt row q e).2 fun x => own_blk row h.blk (by decide) (x ▸ e)
 ·rw [e2]
  exact own_same h.outer fun q e => o.block q (own_lt h.outer q e).2 fun x => own_blk h.outer h.blk (by decide) (x ▸ e)
 ·rw [e1, e3]
  have := h.nlen
  rw [hn, List.length_append] at this
  omega
theorem limit_same (ns : List ByteArray) (a : Int) (st : ScM.Sc) : (ScM.limit ns a st).names = st.names ∧ (ScM.limit ns a st).outer = st.outer := by
 unfold ScM.limit ScM.fault
 split
 ·split <;> exact ⟨rfl, rfl⟩
 ·exact ⟨rfl, rfl⟩
theorem limit_ct (ns : List ByteArray) (a : Int) (st : ScM.Sc) : (ScM.limit ns a st).ct = st.ct := by
 unfold ScM.limit ScM.fault
 split
 ·split <;> rfl
 ·rfl
theorem fault_same (c a : Int) (st : ScM.Sc) : (ScM.fault c a st).names = st.names ∧ (ScM.fault c a st).outer = st.outer ∧ (ScM.fault c a st).ct = st.ct := by
 unfold ScM.fault
 split <;> exact ⟨rfl, rfl, rfl⟩
theorem act_rest {k a : Int} {ns : List ByteArray} {l : X} {L B : List (ScM.Sc → ScM.Sc)} {st : ScM.Sc} (h1 : k ≠ 1) (h12 : k ≠ 12) (h4 : k ≠ 4) (h6 : k ≠ 6) (h7 : k ≠ 7) (h8 : k ≠ 8) :
  ∃ (stp : ScM.Sc) (sc : Int), ScM.act k a ns l L B st = ScM.runs (B.map (ScM.scope sc [])) (ScM.runs L stp) ∧ stp.names = st.names ∧ stp.outer = st.outer ∧ stp.ct = st.ct := by
 unfold ScM.act
 rw [if_neg h1, if_neg h12]
 by_cases h2 : k = 2
 ·rw [if_pos h2]
  refine ⟨ScM.target l st, 1, rfl, ?_⟩
  unfold ScM.target
  split
  ·split
   ·exact fault_same _ _ _
   ·exact ⟨rfl, rfl, rfl⟩
  ·exact ⟨rfl, rfl, rfl⟩
 rw [if_neg h2, if_neg h4]
 by_cases h5 : k = 5
 ·rw [if_pos h5]
  exact ⟨st, 2, rfl, rfl, rfl, rfl⟩
 rw [if_neg h5, if_neg (by omega), if_neg h8]
 by_cases h9 : k = 9
 ·rw [if_pos h9]
  refine ⟨ScM.brk a st, 1, rfl, ?_⟩
  unfold ScM.brk
  split
  ·exact fault_same _ _ _
  ·exact ⟨rfl, rfl, rfl⟩
 ·rw [if_neg h9]
  exact ⟨st, 1, rfl, rfl, rfl, rfl⟩
theorem one_blk {b md : X} (h : b.len = 1) (r : ScM.row 1 b) (h0 : b.elems[0]? = some (.blk md)) : b = X.one (.blk md) := by
 cases b with
 | cons u t =>
  obtain rfl := Option.some.inj h0
  have h : t.len + 1 = 1 := h
  cases t with
  | nil => rfl
  | cons v s =>
   have h : s.len + 1 + 1 = 1 := h
   omega
  | e => exact r.2.elim
  | f => exact r.2.elim
  | s => exact r.2.elim
  | blk => exact r.2.elim
 | nil => cases h
 | e => exact r.elim
 | f => exact r.elim
 | s => exact r.elim
 | blk => exact r.elim
theorem blk_at {w : World} {P : Nat → Prop} {b md : X} {A : Option Addr} {n c j : Nat} (h : Sl b.len (Rd w P b).row 1 (.slice A n c)) (hj : j < b.len) (e : b.elems[j]? = some (.blk md)) :
  ∃ q A9 d9, A = some q ∧ w.cell? (q.add j) = some (.slice A9 md.len d9) ∧ Sl md.len (Rd w P md).row 5 (.slice A9 md.len d9) := by
 obtain ⟨q, y2, u0, rfl, hy2, cc0, rd2⟩ := Sl.at1 h hj
 obtain rfl := Option.some.inj (hy2.symm.trans e)
 rw [Nat.mul_one] at cc0
 obtain ⟨m2, w0, e2, he2, sm⟩ := Rd.is_b rd2 rfl
 injection e2 with e2
 subst e2
 simp only [Array.mk.injEq, List.cons.injEq, and_true] at he2
 subst he2
 obtain ⟨A9, d9, rfl⟩ : ∃ A c, u0 = .slice A md.len c := by obtain ⟨A, c, e, -⟩ := sm; exact ⟨A, c, e⟩
 exact ⟨q, A9, d9, rfl, cc0, sm⟩
theorem Sl.sub1 {w : World} {P : Nat → Prop} {x : X} {p : Addr} {n c i : Nat} (h : Sl x.len (Rd w P x).row 7 (.slice (some p) n c)) (hi : i < x.len) :
  ∃ y, x.elems[i]? = some y ∧ ∀ d, 1 ≤ d → Sl (X.one y).len (Rd w P (X.one y)).row 7 (.slice (some (p.add (i * 7))) 1 d) := by
 obtain ⟨A', c', e, -, -, hr⟩ := h
 injection e with e1 e2 e3
 subst e1
 have hi' : i < x.elems.length := by rw [elems_len]; exact hi
 obtain ⟨p', cs, e, hp, hlt, hz, hc, hd⟩ := Rd.at x 7 _ 0 i hi' hr
 obtain rfl := Option.some.inj e
 have eb : (p.add (i * 7)).block = p.block := by unfold Addr.add; split <;> rfl
 refine ⟨_, List.getElem?_eq_getElem hi', fun d hd1 => ⟨_, d, rfl, (fun e => nomatch e), hd1, ⟨p.add (i * 7), cs, rfl, by rw [eb]; exact hp, by rw [eb]; exact hlt, hz, fun j u hu => ?_, hd⟩, trivial⟩⟩
 have k := hc j u hu
 rw [Nat.zero_add] at k
 rw [Nat.zero_add, add_add]
 exact k
def pick0 (j : Nat) (s t : ScM.Sc) : ScM.Sc := if j = 0 then s else t
theorem oe_nil : OE .nil := oexps_row (.inl rfl) trivial trivial trivial (fun _ h => nomatch h)
set_option maxRecDepth 20000 in
set_option maxHeartbeats 4000000 in
theorem oblock_row {x : X} (hw : ScM.wf x) (hr : ScM.row 5 x) (hf : x.fit 100000) (hs : PrM.Shp x) (H : ∀ y ∈ x.elems, OQ y) : OB x := by
 intro t w B g st P P2 v pv tv k ps ht hwt hrt hwq h hP hps hP2 htv hc
 obtain ⟨A, c, rfl⟩ : ∃ A c, v = .slice A x.len c := by obtain ⟨A, c, e, -⟩ := h; exact ⟨A, c, e⟩
 obtain ⟨At, ct, rfl⟩ : ∃ A c, tv = .slice A t.len c := by obtain ⟨A, c, e, -⟩ := htv; exact ⟨A, c, e⟩
 obtain ⟨Ap, cp, rfl⟩ := strs_slice hps
 obtain ⟨n, hn⟩ : ∃ n, x.len = n := ⟨_, rfl⟩
 rw [show (Value.slice A x.len c) = .slice A n c by rw [hn]] at h ⊢
 obtain ⟨vn, vo, hwo⟩ := hwq
 obtain ⟨An, cn, rfl⟩ := own_shape hwo.names
 have HX := Lib.hid h
 have HT := Lib.hid htv
 have HPS := Lib.hid hps
 have HTE := Lib.hid ht
 have HNE := Lib.hid oe_nil
 have HSH := Lib.hid (fun y hy => shp_elems x hs y hy)
 have HWT := Lib.hid hwt
 have HRT := Lib.hid hrt
 have HQ := Lib.hid (fun y hy => H y hy (ScM.wf_elems hw y hy) (fit_el x hf y hy) (shp_elems x hs y hy))
 have HW := Lib.hid hw
 have HR := Lib.hid hr
 have HF := Lib.hid hf
 have HN := Lib.hid hn
 have HP := Lib.hid hP
 have HP2 := Lib.hid hP2
 have HC := Lib.hid hc
 have WO1 := Lib.hid hwo
 have hl := X.fit_len x hf
 rw [hn] at hl
 have n0 : (0 : Int) ≤ (n : Int) := by omega
 have n1 : (n : Int) ≤ 100000 := by omega
 have k0 : (0 : Int) ≤ (st.names.length : Int) := by omega
 have k1 : (st.names.length : Int) ≤ 1000000000000 := by have := hwo.nlen; have := hwo.max; omega
 obtain ⟨⟨x0, x1⟩, y0, y1⟩ := hwo.blk.twoF
 clear h H hw hf hn hP hc hl hs hwo ht hwt hrt hps hP2 htv hr
 go_enter Try.func23, Try.ntmps23
 have H0 := Lib.hid (show ∀ c, Value.slice Ap ps.length cp = .slice none 0 c → c = 0 from fun c e => by
  injection e with e1 e2 e3
  obtain ⟨A', c', e', h0, -⟩ := HPS.out
  injection e' with f1 f2 f3
  rw [← e3, f3]
  exact h0 (f1 ▸ e1))
 have SZ := Lib.hid (show st.names.length + ps.length ≤ 1000000000000 by have := WO1.out.nlen; have := HC.out; omega)
 go_wp2_with (first
  |(refine wpList_append_names rfl (.tmp 21) (.tmp 22) rfl B _ st.names rfl WO1.out.names _ ps rfl (Txs.of_strs HPS.out) H0.out SZ.out WO1.out.base ?_; intro v9 w9 own9 g9 hv9; obtain ⟨A9, c9, rfl⟩ := own_shape own9; have OW := Lib.hid own9; have G9 := Lib.hid g9; have V9 := Lib.hid hv9; have K9 := Lib.hid (Blk.grown WO1.out.blk g9 (own_blk WO1.out.names WO1.out.blk (by decide))); clear own9 g9 hv9; obtain ⟨⟨d0, d1⟩, e0, e1⟩ := K9.out.twoF))
 have AD := Lib.hid (WO1.out.added (ps := ps) (Below.refl w.heap.size w) G9.out ((Only.refl (fun b => b = g) w9).setCell (p := ⟨g, 0, none⟩) (.inl rfl) (.slice A9 (st.names ++ ps).length c9)) OW.out V9.out (blkO0 K9.out _) (by have := HC.out; omega))
 obtain ⟨st1, hst1⟩ : ∃ st1, ScM.declare ps (ScM.enter k st) = st1 := ⟨_, rfl⟩
 have WQ1 := Lib.hid (show WQ (w9.setCell ⟨g, 0, none⟩ (.slice A9 (st.names.length + ps.length) c9)) B g st1 from List.length_append ▸ ⟨_, _, AD.out.1.conv (by rw [← hst1]; rfl) (by rw [← hst1]; rfl) (by rw [← hst1]; show st.ct + ps.length ≤ st.ct + 1 + ps.length; omega) (by rw [← hst1]; show st.ct + 1 + ps.length ≤ _; have := HC.out; omega)⟩)
 have KO1 := Lib.hid (show Ko B w (w9.setCell ⟨g, 0, none⟩ (.slice A9 (st.names.length + ps.length) c9)) from List.length_append ▸ AD.out.2)
 have HC1 := Lib.hid (show st1.ct + (ScM.sz x + ScM.sz t) ≤ 1000000000000 by rw [← hst1]; show st.ct + 1 + ps.length + _ ≤ _; have := HC.out; omega)
 have HS1 := Lib.hid hst1
 have HNM := Lib.hid (show st1.names = st.names ++ ps by rw [← hst1]; rfl)
 clear hst1 AD d0 d1 e0 e1
 go_loopw [9, 10] (fun u9 u10 wr => ∃ (i : Nat) (v : Value), u9 = .int .i64 (i : Int) ∧ u10 = v ∧ i ≤ n ∧ WQ wr B g (ScM.R x i st1) ∧ Ko B w wr) (fun u9 _ _ => (n : Int).toNat - (intOf u9).toNat)
 case atStart => exact ⟨0, undef, rfl, rfl, Nat.zero_le _, WQ1.out, KO1.out⟩
 case round =>
  obtain ⟨i, v, rfl, rfl, hi, hwk, hkp⟩ := hrel
  have KP := Lib.hid hkp
  have WQ2 := Lib.hid hwk
  have i0 : (0 : Int) ≤ (i : Int) := by omega
  have wri : wrap64 ((i : Int) + 1) = (i : Int) + 1 := by unfold wrap64; omega
  clear hwk hkp
  by_cases hlt : i < n
  ·obtain ⟨wo, hwo⟩ : ∃ wo, wo = wr := ⟨_, rfl⟩
   subst hwo
   obtain ⟨p, y, v0, v1, v2, v3, v4, rfl, hy, ⟨c0, c1, c2, c3, c4⟩, rd⟩ := Sl.at5 (HX.out.ko KP.out HP.out) (by rw [HN.out]; exact hlt)
   obtain ⟨kk, a, ns, l, b, w2, w3, w4, rfl, he, sn, sl, sb⟩ := Rd.is_s rd rfl
   simp only [Array.mk.injEq, List.cons.injEq, and_true] at he
   obtain ⟨rfl, rfl, rfl, rfl, rfl⟩ := he
   obtain ⟨A2, d2, rfl⟩ : ∃ A c, v2 = .slice A ns.length c := by obtain ⟨A, c, e, -⟩ := sn; exact ⟨A, c, e⟩
   obtain ⟨A3, d3, rfl⟩ : ∃ A c, v3 = .slice A l.len c := by obtain ⟨A, c, e, -⟩ := sl; exact ⟨A, c, e⟩
   obtain ⟨A4, d4, rfl⟩ : ∃ A c, v4 = .slice A b.len c := by obtain ⟨A, c, e, -⟩ := sb; exact ⟨A, c, e⟩
   have LT := Lib.hid hlt
   have hl1 : (i : Int) < (n : Int) := by omega
   have WE := ScM.wf_elems HW.out _ (List.mem_of_getElem? hy)
   have FE := fit_el x HF.out _ (List.mem_of_getElem? hy)
   have QS : OE l ∧ (∀ y ∈ l.elems, OE (X.one y)) ∧ ∀ y ∈ b.elems, ∀ m, y = .blk m → OB m := HQ.out _ (List.mem_of_getElem? hy)
   have QL := Lib.hid QS.1
   have Q1 := Lib.hid QS.2.1
   have QB := Lib.hid QS.2.2
   have RB := Lib.hid WE.2.1
   have WB := Lib.hid WE.2.2.2
   have WL := Lib.hid WE.2.2.1
   have RL := Lib.hid WE.1
   have OK := Lib.hid (show PrM.OkS kk ns l b from (HSH.out _ (List.mem_of_getElem? hy)).1)
   have CT := Lib.hid (show (ScM.R x i st1).ct + (1 + ns.length + ScM.sz l + ScM.sz b + b.len * (1 + ns.length)) ≤ 1000000000000 from R_fit HW.out hy (by have := HC1.out; omega))
   have SE := Lib.hid (show ScM.R x (i + 1) st1 = ScM.act kk a ns l (ScM.sem l).2 (ScM.sem b).2 (ScM.R x i st1) by rw [ScM.R_succ hy]; rfl)
   have fl := X.fit_len l FE.1.2.1
   have fb := X.fit_len b FE.1.2.2
   have nsl : ns.length ≤ 100000 := FE.1.1
   obtain ⟨st0, hst0⟩ : ∃ s, ScM.R x i st1 = s := ⟨_, rfl⟩
   rw [hst0] at CT SE WQ2
   clear rd hlt hi hy WE FE QS hst0
   have bA := (Below.refl wo.heap.size wo).alloc (Nat.le_refl _) (.cells #[.int .i64 kk, .int .i64 a, .slice A2 ns.length d2, .slice A3 l.len d3, .slice A4 b.len d4] 42)
   have BX := Blk.new wo #[.int .i64 kk, .int .i64 a, .slice A2 ns.length d2, .slice A3 l.len d3, .slice A4 b.len d4] 42
   have WQ3 := WQ2.out.keep bA
   have KP2 := Ko.of_below bA WQ2.out.base
   obtain ⟨xb, hxb⟩ : ∃ xb, wo.heap.size = xb := ⟨_, rfl⟩
   obtain ⟨wx, hwx⟩ : ∃ wx, wo.alloc (.cells #[.int .i64 kk, .int .i64 a, .slice A2 ns.length d2, .slice A3 l.len d3, .slice A4 b.len d4] 42) = wx := ⟨_, rfl⟩
   rw [hwx] at WQ3 KP2
   rw [hwx, hxb] at BX
   have WQ3 := Lib.hid WQ3
   have KW := Lib.hid (KP.out.trans KP2)
   have BXK := Lib.hid (fun (W : World) (k : Ko B wx W) => k.blk _ _ _ BX (by decide) (by decide))
   have SNK := Lib.hid (fun (W : World) (k : Ko B wx W) => sn.ko (KP2.trans k) HP.out)
   have SLK := Lib.hid (fun (W : World) (k : Ko B wx W) => sl.ko (KP2.trans k) HP.out)
   have SBK := Lib.hid (fun (W : World) (k : Ko B wx W) => sb.ko (KP2.trans k) HP.out)
   have HWX := Lib.hid hwx
   have HXB := Lib.hid hxb
   obtain ⟨⟨z0, z1, z2, z3, z4⟩, -⟩ := BX.five
   obtain ⟨mb, hmb⟩ : ∃ mb, b.len = mb := ⟨_, rfl⟩
   have HM := Lib.hid hmb
   rw [hmb] at fb
   have m0 : (0 : Int) ≤ (mb : Int) := by omega
   have m1 : (mb : Int) ≤ 100000 := by omega
   have K0 := Lib.hid (Ko.refl B wx)
   clear sn sl sb bA BX KP2 hwx hxb hmb fb fl
   by_cases h12 : kk = 12
   ·subst h12
    have CTL := Lib.hid (show (ScM.limit ns a st0).ct = st0.ct from limit_ct ns a st0)
    have WQ5 := Lib.hid (show WQ wx B g (ScM.limit ns a st0) by obtain ⟨vn, vo, h⟩ := WQ3.out; exact ⟨_, _, h.conv (limit_same ns a st0).1 (limit_same ns a st0).2 (Nat.le_of_eq (limit_ct ns a st0).symm) (by rw [limit_ct]; exact h.max)⟩)
    have CTN := Lib.hid (show (ScM.limit ns a st0).ct + ns.length ≤ 1000000000000 by have := CTL.out; have := CT.out; omega)
    go_upto_region 6 with fail
    rw [HWX.out]
    rw [HXB.out]
    go_upto_region 7 with fail
    obtain ⟨vn, vo, hwo9⟩ := WQ5.out
    have WO9 := Lib.hid hwo9
    obtain ⟨Ax, cx, rfl⟩ := own_shape hwo9.names
    obtain ⟨⟨y0, y1⟩, f0, f1⟩ := hwo9.blk.twoF
    clear hwo9
    have KB := Lib.hid (fun (W : World) (e : W.cell? ⟨xb, 2, none⟩ = some (.slice A2 ns.length d2)) => e)
    have SN9 := Lib.hid (SNK.out _ K0.out)
    have H0 := Lib.hid (show ∀ c, Value.slice A2 ns.length d2 = .slice none 0 c → c = 0 from fun c e => by
     injection e with e1 e2 e3
     obtain ⟨A', c', e', h0, -⟩ := SN9.out
     injection e' with f1 f2 f3
     rw [← e3, f3]
     exact h0 (f1 ▸ e1))
    have SZ9 := Lib.hid (show ((ScM.limit ns a st0)).names.length + ns.length ≤ 1000000000000 by have := WO9.out.nlen; have := CTN.out; omega)
    have BX9 := Lib.hid (BXK.out _ K0.out)
    refine wp_region_held_drew (S := fun W => W.cell? ⟨xb, 2, none⟩ = some (.slice A2 ns.length d2)) (by kernel_rfl) z2 (fun hH0 => ?_)
    refine tkB 0 hH0 ?_
    refine tkB 1 hH0 ?_
    refine tkB 2 hH0 ?_
    refine tkB 3 hH0 ?_
    refine tkB 5 hH0 ?_
    refine tkB 6 hH0 ?_
    refine wpAnyH_ready (rs := [4]) (by kernel_rfl) (by simp) ?_
    refine rdB (fun K hK => ?_) AllReadyH.nil
    rw [if_pos (by rfl)]
    go_wp2_with fail
    refine hK.out _ _ z2 (fun hH1 => ?_)
    clear hK K
    try simp only [Act.put, List.setIfInBounds_toArray, List.set_cons_zero, List.set_cons_succ]
    refine wpAnyH_ready (rs := [7]) (by kernel_rfl) (by simp) ?_
    refine rdB (fun K hK => ?_) AllReadyH.nil
    refine step_append_names rfl (.tmp 43) (.tmp 45) rfl B (.slice Ax ((ScM.limit ns a st0)).names.length cx) ((ScM.limit ns a st0)).names ?_ ?_ (.slice A2 ns.length d2) ns ?_ ?_ ?_ ?_ ?_ ?_; rfl; exact WO9.out.drew.names; rfl; exact Txs.of_strs SN9.out; exact H0.out; exact SZ9.out; exact WO9.out.base; intro v9 w9 own9 g9 hv9; obtain ⟨A9, c9, rfl⟩ := own_shape own9; have OW := Lib.hid own9; have G9 := Lib.hid g9; have V9 := Lib.hid hv9
    have K9 := Lib.hid (Blk.grown (WO9.out.drew.blk) g9 (own_blk WO9.out.names WO9.out.blk (by decide)))
    have KX := Lib.hid (Blk.grown (W := (wx).drew) (show Blk (wx).drew _ _ _ from BX9.out) g9 (own_blk WO9.out.names BX9.out (by decide)))
    clear own9 g9 hv9
    obtain ⟨⟨d0, d1⟩, e0, e1⟩ := K9.out.twoF
    obtain ⟨⟨u0, u1, u2, u3, u4⟩, -⟩ := KX.out.five
    refine hK.out _ _ u2 (fun hH3 => ?_)
    clear hK K
    try simp only [Act.put, List.setIfInBounds_toArray, List.set_cons_zero, List.set_cons_succ]
    refine tkB 8 hH3 ?_
    refine tkB 9 hH3 ?_
    refine wpAnyH_ready (rs := [10]) (by kernel_rfl) (by simp) ?_
    refine rdB (fun K hK => ?_) AllReadyH.nil
    rw [if_pos (by rfl)]
    go_wp2_with fail
    have o := (Only.refl (fun b => b = g) w9).setCell (p := ⟨g, 0, none⟩) (.inl rfl) (.slice A9 (((ScM.limit ns a st0)).names ++ ns).length c9)
    have o2 := (Only.refl (fun b => b = g) w9).setCell (p := ⟨g, 0, none⟩) (.inl rfl) (.slice A9 (((ScM.limit ns a st0)).names.length + ns.length) c9)
    refine hK.out _ _ ((World.cell?_of_block (o2.block xb (World.block_lt_of_cell? _ _ u2) (fun e => by have k1 := BX9.out; rw [e] at k1; have k2 := WO9.out.blk; have k1 : _ = _ := k1; have k2 : _ = _ := k2; rw [k1] at k2; injection k2 with k2; injection k2 with _ k2; exact absurd k2 (by decide)))).trans u2) (fun hH4 => ?_)
    clear hK K
    try simp only [Act.put, List.setIfInBounds_toArray, List.set_cons_zero, List.set_cons_succ]
    refine wpAnyH_done (by kernel_rfl) ?_ _
    have r := WO9.out.added (ps := ns) ((Below.refl _ (wx)).drew) G9.out o OW.out V9.out (blkO0 K9.out _) (by have := CTN.out; omega)
    rw [List.length_append] at r
    obtain ⟨wc, hwc⟩ : ∃ wc, w9.setCell ⟨g, 0, none⟩ (.slice A9 (((ScM.limit ns a st0)).names.length + ns.length) c9) = wc := ⟨_, rfl⟩
    rw [hwc] at r
    rw [hwc]
    have HWQ := Lib.hid (show WQ wc B g (ScM.declare ns ((ScM.limit ns a st0))) from ⟨_, _, r.1⟩)
    have HKO := Lib.hid (K0.out.trans r.2)
    clear r hwc o o2 d0 d1 e0 e1 u0 u1 u2 u3 u4 y0 y1 f0 f1 z0 z1 z2 z3 z4 KB
    clear OW G9 V9 K9 KX SN9 H0 SZ9 BX9 WO9
    obtain ⟨⟨z0, z1, z2, z3, z4⟩, -⟩ := (BXK.out _ HKO.out).five
    rw [HM.out] at z4
    have CTP := Lib.hid (show (ScM.declare ns (ScM.limit ns a st0)).ct = st0.ct + ns.length from congrArg (· + ns.length) CTL.out)
    have C1 := Lib.hid (QL.out _ B g (ScM.declare ns (ScM.limit ns a st0)) P _ HWQ.out (SLK.out _ HKO.out) HP.out (by have := CT.out; have := CTP.out; omega))
    have CE := Lib.hid (GE.calm WL.out RL.out (ScM.declare ns (ScM.limit ns a st0)))
    obtain ⟨st2, hst2⟩ : ∃ st2, ScM.runs (ScM.sem l).2 (ScM.declare ns (ScM.limit ns a st0)) = st2 := ⟨_, rfl⟩
    have ML := Nat.mul_le_mul (Nat.le_refl b.len) (show 1 + 0 ≤ 1 + ns.length by omega)
    have HC2 := Lib.hid (show st2.ct + (ScM.sz b + b.len * (1 + ([] : List ByteArray).length)) ≤ 1000000000000 by rw [← hst2]; have := CE.out; have := CT.out; have := CTP.out; show _ + (_ + b.len * (1 + 0)) ≤ _; omega)
    have SE : Hid (ScM.R x (i + 1) st1 = ScM.runs ((ScM.sem b).2.map (ScM.scope 1 [])) st2) := Lib.hid (by rw [SE.out, ← hst2]; rfl)
    rw [hst2] at C1
    clear hst2 ML CE
    go_wp2_with (go_at_call 46; refine C1.out.mono ?_; rintro e w5 ⟨rfl, h5, kp5⟩; have H5 := Lib.hid h5; have K5 := Lib.hid (HKO.out.trans kp5); clear h5 kp5 z0 z1 z2 z3 z4; obtain ⟨⟨z0, z1, z2, z3, z4⟩, -⟩ := (BXK.out _ K5.out).five; rw [HM.out] at z4)
    go_loopw [11] (fun u11 wr2 => ∃ j : Nat, u11 = .int .i64 (j : Int) ∧ j ≤ mb ∧ WQ wr2 B g (ScM.RS 1 [] b j st2) ∧ Ko B wx wr2) (fun u11 _ => (mb : Int).toNat - (intOf u11).toNat)
    case atStart => exact ⟨0, rfl, Nat.zero_le _, H5.out, K5.out⟩
    case round =>
     obtain ⟨j, rfl, hj, hwq, hko⟩ := hrel
     have WQ4 := Lib.hid hwq
     have KO4 := Lib.hid hko
     have j0 : (0 : Int) ≤ (j : Int) := by omega
     have wrj : wrap64 ((j : Int) + 1) = (j : Int) + 1 := by unfold wrap64; omega
     clear hwq hko z0 z1 z2 z3 z4
     obtain ⟨⟨z0, z1, z2, z3, z4⟩, -⟩ := (BXK.out _ KO4.out).five
     rw [HM.out] at z4
     by_cases hltj : j < mb
     ·obtain ⟨q, y2, u0, rfl, hy2, cc0, rd2⟩ := Sl.at1 (SBK.out _ KO4.out) (by rw [HM.out]; exact hltj)
      rw [Nat.mul_one] at cc0
      obtain ⟨md, w0, rfl, he2, sm⟩ := Rd.is_b rd2 rfl
      simp only [Array.mk.injEq, List.cons.injEq, and_true] at he2
      subst he2
      obtain ⟨A9, d9, rfl⟩ : ∃ A c, u0 = .slice A md.len c := by obtain ⟨A, c, e, -⟩ := sm; exact ⟨A, c, e⟩
      have D1 := Lib.hid (QB.out _ (List.mem_of_getElem? hy2) md rfl .nil wr B g _ P P _ (.slice none 0 0) (.slice none 0 0) 1 [] HNE.out trivial trivial WQ4.out sm HP.out (strs_nil _ P) HP.out (sl_nil _ P 7) (by have := RS_fit (k := 1) (ps := []) WB.out RB.out hy2 HC2.out; show _ + (1 + _ + _ + 0) ≤ _; omega))
      have RS1 := Lib.hid (ScM.RS_succ (k := 1) (ps := []) hy2 st2)
      have LTJ := Lib.hid hltj
      have hl2 : (j : Int) < (mb : Int) := by omega
      clear rd2 sm hy2 hltj hj
      go_wp2_with (go_at_call 23; refine D1.out.mono ?_; rintro e w7 ⟨rfl, h7, kp7⟩; have H7 := Lib.hid h7; have K7 := Lib.hid (KO4.out.trans kp7); clear h7 kp7)
      all_goals
       refine ⟨⟨j + 1, ?_, LTJ.out, by rw [RS1.out]; exact H7.out, K7.out⟩, ?_⟩
       ·first | rfl | exact congrArg (Value.int .i64) (wrj.trans (by omega))
       ·have := LTJ.out; simp only [intOf]; omega
     ·have hl2 : ¬ (j : Int) < (mb : Int) := by omega
      have RE2 := Lib.hid (ScM.RS_end (k := 1) (ps := []) (x := b) (i := j) (by rw [HM.out]; omega) st2)
      clear hltj hj
      go_wp2_with fail
      have KQ := WQ4.out
      rw [RE2.out] at KQ
      have KQ : WQ wr B g (ScM.R x (i + 1) st1) := by rw [SE.out]; exact KQ
      have KF := KO4
      refine ⟨⟨i + 1, _, ?_, rfl, LT.out, KQ, KW.out.trans KF.out⟩, ?_⟩
      ·first | rfl | exact congrArg (Value.int .i64) (by omega)
      ·have := LT.out; simp only [intOf]; omega
   by_cases h1 : kk = 1
   ·subst h1
    have CTP := Lib.hid (show (ScM.limit ns a st0).ct = st0.ct from limit_ct ns a st0)
    have WQ5 := Lib.hid (show WQ wx B g (ScM.limit ns a st0) by obtain ⟨vn, vo, h⟩ := WQ3.out; exact ⟨_, _, h.conv (limit_same ns a st0).1 (limit_same ns a st0).2 (Nat.le_of_eq (limit_ct ns a st0).symm) (by rw [limit_ct]; exact h.max)⟩)
    have C1 := Lib.hid (QL.out _ B g (ScM.limit ns a st0) P _ WQ5.out (SLK.out _ K0.out) HP.out (by have := CT.out; have := CTP.out; omega))
    have CE := Lib.hid (GE.calm WL.out RL.out (ScM.limit ns a st0))
    obtain ⟨st2, hst2⟩ : ∃ st2, ScM.runs (ScM.sem l).2 (ScM.limit ns a st0) = st2 := ⟨_, rfl⟩
    have ML := Nat.mul_le_mul (Nat.le_refl b.len) (show 1 + 0 ≤ 1 + ns.length by omega)
    have HC2 := Lib.hid (show st2.ct + (ScM.sz b + b.len * (1 + ([] : List ByteArray).length)) ≤ 1000000000000 by rw [← hst2]; have := CE.out; have := CT.out; have := CTP.out; show _ + (_ + b.len * (1 + 0)) ≤ _; omega)
    have CTN := Lib.hid (show (ScM.runs ((ScM.sem b).2.map (ScM.scope 1 [])) st2).ct + ns.length ≤ 1000000000000 by
     have r : (ScM.runs ((ScM.sem b).2.map (ScM.scope 1 [])) st2).ct ≤ st2.ct + (ScM.sz b + b.len * (1 + 0)) := (ScM.RS_all (fun y hy => ScM.sem_ext y (ScM.wf_elems WB.out y hy)) RB.out 1 [] st2).ct
     have ce := CE.out
     rw [hst2] at ce
     have := CT.out; have := CTP.out; omega)
    have SE : Hid (ScM.R x (i + 1) st1 = ScM.declare ns (ScM.runs ((ScM.sem b).2.map (ScM.scope 1 [])) st2)) := Lib.hid (by rw [SE.out, ← hst2]; rfl)
    rw [hst2] at C1
    clear hst2 ML CE
    go_upto_region 6 with fail
    rw [HWX.out]
    rw [HXB.out]
    go_wp2_with (go_at_call 46; refine C1.out.mono ?_; rintro e w5 ⟨rfl, h5, kp5⟩; have H5 := Lib.hid h5; have K5 := Lib.hid (K0.out.trans kp5); clear h5 kp5 z0 z1 z2 z3 z4; obtain ⟨⟨z0, z1, z2, z3, z4⟩, -⟩ := (BXK.out _ K5.out).five; rw [HM.out] at z4)
    go_loopw [11] (fun u11 wr2 => ∃ j : Nat, u11 = .int .i64 (j : Int) ∧ j ≤ mb ∧ WQ wr2 B g (ScM.RS 1 [] b j st2) ∧ Ko B wx wr2) (fun u11 _ => (mb : Int).toNat - (intOf u11).toNat)
    case atStart => exact ⟨0, rfl, Nat.zero_le _, H5.out, K5.out⟩
    case round =>
     obtain ⟨j, rfl, hj, hwq, hko⟩ := hrel
     have WQ4 := Lib.hid hwq
     have KO4 := Lib.hid hko
     have j0 : (0 : Int) ≤ (j : Int) := by omega
     have wrj : wrap64 ((j : Int) + 1) = (j : Int) + 1 := by unfold wrap64; omega
     clear hwq hko z0 z1 z2 z3 z4
     obtain ⟨⟨z0, z1, z2, z3, z4⟩, -⟩ := (BXK.out _ KO4.out).five
     rw [HM.out] at z4
     by_cases hltj : j < mb
     ·obtain ⟨q, y2, u0, rfl, hy2, cc0, rd2⟩ := Sl.at1 (SBK.out _ KO4.out) (by rw [HM.out]; exact hltj)
      rw [Nat.mul_one] at cc0
      obtain ⟨md, w0, rfl, he2, sm⟩ := Rd.is_b rd2 rfl
      simp only [Array.mk.injEq, List.cons.injEq, and_true] at he2
      subst he2
      obtain ⟨A9, d9, rfl⟩ : ∃ A c, u0 = .slice A md.len c := by obtain ⟨A, c, e, -⟩ := sm; exact ⟨A, c, e⟩
      have D1 := Lib.hid (QB.out _ (List.mem_of_getElem? hy2) md rfl .nil wr B g _ P P _ (.slice none 0 0) (.slice none 0 0) 1 [] HNE.out trivial trivial WQ4.out sm HP.out (strs_nil _ P) HP.out (sl_nil _ P 7) (by have := RS_fit (k := 1) (ps := []) WB.out RB.out hy2 HC2.out; show _ + (1 + _ + _ + 0) ≤ _; omega))
      have RS1 := Lib.hid (ScM.RS_succ (k := 1) (ps := []) hy2 st2)
      have LTJ := Lib.hid hltj
      have hl2 : (j : Int) < (mb : Int) := by omega
      clear rd2 sm hy2 hltj hj
      go_wp2_with (go_at_call 23; refine D1.out.mono ?_; rintro e w7 ⟨rfl, h7, kp7⟩; have H7 := Lib.hid h7; have K7 := Lib.hid (KO4.out.trans kp7); clear h7 kp7)
      all_goals
       refine ⟨⟨j + 1, ?_, LTJ.out, by rw [RS1.out]; exact H7.out, K7.out⟩, ?_⟩
       ·first | rfl | exact congrArg (Value.int .i64) (wrj.trans (by omega))
       ·have := LTJ.out; simp only [intOf]; omega
     ·have hl2 : ¬ (j : Int) < (mb : Int) := by omega
      have RE2 := Lib.hid (ScM.RS_end (k := 1) (ps := []) (x := b) (i := j) (by rw [HM.out]; omega) st2)
      clear hltj hj
      have WQ6 := Lib.hid (RE2.out ▸ WQ4.out)
      have KO6 := KO4
      go_wp2_with fail
      obtain ⟨vn, vo, hwo9⟩ := WQ6.out
      have WO9 := Lib.hid hwo9
      obtain ⟨Ax, cx, rfl⟩ := own_shape hwo9.names
      obtain ⟨⟨y0, y1⟩, f0, f1⟩ := hwo9.blk.twoF
      clear hwo9
      have KB := Lib.hid (fun (W : World) (e : W.cell? ⟨xb, 2, none⟩ = some (.slice A2 ns.length d2)) => e)
      have SN9 := Lib.hid (SNK.out _ KO6.out)
      have H0 := Lib.hid (show ∀ c, Value.slice A2 ns.length d2 = .slice none 0 c → c = 0 from fun c e => by
       injection e with e1 e2 e3
       obtain ⟨A', c', e', h0, -⟩ := SN9.out
       injection e' with f1 f2 f3
       rw [← e3, f3]
       exact h0 (f1 ▸ e1))
      have SZ9 := Lib.hid (show ((ScM.runs ((ScM.sem b).2.map (ScM.scope 1 [])) st2)).names.length + ns.length ≤ 1000000000000 by have := WO9.out.nlen; have := CTN.out; omega)
      have BX9 := Lib.hid (BXK.out _ KO6.out)
      refine wp_region_held_drew (S := fun W => W.cell? ⟨xb, 2, none⟩ = some (.slice A2 ns.length d2)) (by kernel_rfl) z2 (fun hH0 => ?_)
      refine tkB 0 hH0 ?_
      refine tkB 1 hH0 ?_
      refine tkB 2 hH0 ?_
      refine tkB 3 hH0 ?_
      refine tkB 5 hH0 ?_
      refine tkB 6 hH0 ?_
      refine wpAnyH_ready (rs := [4]) (by kernel_rfl) (by simp) ?_
      refine rdB (fun K hK => ?_) AllReadyH.nil
      rw [if_pos (by rfl)]
      go_wp2_with fail
      refine hK.out _ _ z2 (fun hH1 => ?_)
      clear hK K
      try simp only [Act.put, List.setIfInBounds_toArray, List.set_cons_zero, List.set_cons_succ]
      refine wpAnyH_ready (rs := [7]) (by kernel_rfl) (by simp) ?_
      refine rdB (fun K hK => ?_) AllReadyH.nil
      refine step_append_names rfl (.tmp 129) (.tmp 131) rfl B (.slice Ax ((ScM.runs ((ScM.sem b).2.map (ScM.scope 1 [])) st2)).names.length cx) ((ScM.runs ((ScM.sem b).2.map (ScM.scope 1 [])) st2)).names ?_ ?_ (.slice A2 ns.length d2) ns ?_ ?_ ?_ ?_ ?_ ?_; rfl; exact WO9.out.drew.names; rfl; exact Txs.of_strs SN9.out; exact H0.out; exact SZ9.out; exact WO9.out.base; intro v9 w9 own9 g9 hv9; obtain ⟨A9, c9, rfl⟩ := own_shape own9; have OW := Lib.hid own9; have G9 := Lib.hid g9; have V9 := Lib.hid hv9
      have K9 := Lib.hid (Blk.grown (WO9.out.drew.blk) g9 (own_blk WO9.out.names WO9.out.blk (by decide)))
      have KX := Lib.hid (Blk.grown (W := (wr).drew) (show Blk (wr).drew _ _ _ from BX9.out) g9 (own_blk WO9.out.names BX9.out (by decide)))
      clear own9 g9 hv9
      obtain ⟨⟨d0, d1⟩, e0, e1⟩ := K9.out.twoF
      obtain ⟨⟨u0, u1, u2, u3, u4⟩, -⟩ := KX.out.five
      refine hK.out _ _ u2 (fun hH3 => ?_)
      clear hK K
      try simp only [Act.put, List.setIfInBounds_toArray, List.set_cons_zero, List.set_cons_succ]
      refine tkB 8 hH3 ?_
      refine tkB 9 hH3 ?_
      refine wpAnyH_ready (rs := [10]) (by kernel_rfl) (by simp) ?_
      refine rdB (fun K hK => ?_) AllReadyH.nil
      rw [if_pos (by rfl)]
      go_wp2_with fail
      have o := (Only.refl (fun b => b = g) w9).setCell (p := ⟨g, 0, none⟩) (.inl rfl) (.slice A9 (((ScM.runs ((ScM.sem b).2.map (ScM.scope 1 [])) st2)).names ++ ns).length c9)
      have o2 := (Only.refl (fun b => b = g) w9).setCell (p := ⟨g, 0, none⟩) (.inl rfl) (.slice A9 (((ScM.runs ((ScM.sem b).2.map (ScM.scope 1 [])) st2)).names.length + ns.length) c9)
      refine hK.out _ _ ((World.cell?_of_block (o2.block xb (World.block_lt_of_cell? _ _ u2) (fun e => by have k1 := BX9.out; rw [e] at k1; have k2 := WO9.out.blk; have k1 : _ = _ := k1; have k2 : _ = _ := k2; rw [k1] at k2; injection k2 with k2; injection k2 with _ k2; exact absurd k2 (by decide)))).trans u2) (fun hH4 => ?_)
      clear hK K
      try simp only [Act.put, List.setIfInBounds_toArray, List.set_cons_zero, List.set_cons_succ]
      refine wpAnyH_done (by kernel_rfl) ?_ _
      have r := WO9.out.added (ps := ns) ((Below.refl _ (wr)).drew) G9.out o OW.out V9.out (blkO0 K9.out _) (by have := CTN.out; omega)
      rw [List.length_append] at r
      obtain ⟨wc, hwc⟩ : ∃ wc, w9.setCell ⟨g, 0, none⟩ (.slice A9 (((ScM.runs ((ScM.sem b).2.map (ScM.scope 1 [])) st2)).names.length + ns.length) c9) = wc := ⟨_, rfl⟩
      rw [hwc] at r
      rw [hwc]
      have HWQ := Lib.hid (show WQ wc B g (ScM.declare ns ((ScM.runs ((ScM.sem b).2.map (ScM.scope 1 [])) st2))) from ⟨_, _, r.1⟩)
      have HKO := Lib.hid (KO6.out.trans r.2)
      clear r hwc o o2 d0 d1 e0 e1 u0 u1 u2 u3 u4 y0 y1 f0 f1 z0 z1 z2 z3 z4 KB
      clear OW G9 V9 K9 KX SN9 H0 SZ9 BX9 WO9
      obtain ⟨⟨z0, z1, z2, z3, z4⟩, -⟩ := (BXK.out _ HKO.out).five
      rw [HM.out] at z4
      go_wp2_with fail
      have KQ := HWQ.out
      rw [← SE.out] at KQ
      have KF := HKO
      refine ⟨⟨i + 1, _, ?_, rfl, LT.out, KQ, KW.out.trans KF.out⟩, ?_⟩
      ·first | rfl | exact congrArg (Value.int .i64) (by omega)
      ·have := LT.out; simp only [intOf]; omega
   by_cases h8 : kk = 8
   ·subst h8
    have ML := Nat.mul_le_mul (Nat.le_refl b.len) (show 1 + 0 ≤ 1 + ns.length by omega)
    have MB1 : mb = 1 := by rw [← HM.out]; exact OK.out.2.2.2.1 (.inr (.inr (.inr rfl)))
    have CT2 := Lib.hid (show st0.ct + (1 + 0 + ScM.sz b + ScM.sz l) ≤ 1000000000000 by have := CT.out; omega)
    clear ML
    go_upto_region 6 with fail
    rw [HWX.out]
    rw [HXB.out]
    rw [HM.out] at z4
    go_wp2_with fail
    go_loopw [11] (fun u11 wr2 => ∃ j : Nat, u11 = .int .i64 (j : Int) ∧ j ≤ mb ∧ WQ wr2 B g (pick0 j st0 (ScM.R x (i + 1) st1)) ∧ Ko B wx wr2) (fun u11 _ => (mb : Int).toNat - (intOf u11).toNat)
    case atStart => exact ⟨0, rfl, Nat.zero_le _, WQ3.out, K0.out⟩
    case round =>
     obtain ⟨j, rfl, hj, hwq, hko⟩ := hrel
     have WQ4 := Lib.hid hwq
     have KO4 := Lib.hid hko
     have j0 : (0 : Int) ≤ (j : Int) := by omega
     have wrj : wrap64 ((j : Int) + 1) = (j : Int) + 1 := by unfold wrap64; omega
     clear hwq hko z0 z1 z2 z3 z4
     obtain ⟨⟨z0, z1, z2, z3, z4⟩, -⟩ := (BXK.out _ KO4.out).five
     rw [HM.out] at z4
     by_cases hltj : j < mb
     ·obtain ⟨q, y2, u0, rfl, hy2, cc0, rd2⟩ := Sl.at1 (SBK.out _ KO4.out) (by rw [HM.out]; exact hltj)
      rw [Nat.mul_one] at cc0
      obtain ⟨md, w0, rfl, he2, sm⟩ := Rd.is_b rd2 rfl
      simp only [Array.mk.injEq, List.cons.injEq, and_true] at he2
      subst he2
      obtain ⟨A9, d9, rfl⟩ : ∃ A c, u0 = .slice A md.len c := by obtain ⟨A, c, e, -⟩ := sm; exact ⟨A, c, e⟩
      have hj0 : j = 0 := by omega
      have WQ5 := Lib.hid (show WQ wr B g st0 by have k := WQ4.out; rw [hj0] at k; exact k)
      have EB := Lib.hid (one_blk (by rw [HM.out]; exact MB1) RB.out (by rw [← hj0]; exact hy2))
      have SE2 := Lib.hid (show ScM.R x (i + 1) st1 = ScM.scope 2 [] (fun s => ScM.runs (ScM.sem l).2 (ScM.runs (ScM.sem md).2 s)) st0 by rw [SE.out, EB.out]; rfl)
      have D1 := Lib.hid (QB.out _ (List.mem_of_getElem? hy2) md rfl l wr.drew B g _ P P _ (.slice none 0 0) _ 2 [] QL.out WL.out RL.out WQ5.out.drew (sm.ko ((Ko.refl B wr).drew) HP.out) HP.out (strs_nil _ P) HP.out (SLK.out _ KO4.out.drew) (by have := CT2.out; have e : ScM.sz b = ScM.sz md := (by rw [EB.out]; exact Nat.add_zero _); show _ + (1 + 0 + _ + _) ≤ _; omega))
      have LTJ := Lib.hid hltj
      have hl2 : (j : Int) < (mb : Int) := by omega
      clear rd2 sm hy2 hltj hj hj0 MB1
      go_wp2_with fail
      go_region_with (refine D1.out.mono ?_; rintro e w7 ⟨rfl, h7, kp7⟩; have H7 := Lib.hid h7; have K7 := Lib.hid (KO4.out.drew.trans kp7); clear h7 kp7)
      all_goals
       go_wp2_with fail
       refine ⟨⟨j + 1, ?_, LTJ.out, by rw [show pick0 (j + 1) st0 (ScM.R x (i + 1) st1) = ScM.R x (i + 1) st1 from rfl, SE2.out]; exact H7.out, K7.out⟩, ?_⟩
       ·first | rfl | exact congrArg (Value.int .i64) (wrj.trans (by omega))
       ·have := LTJ.out; simp only [intOf]; omega
     ·have hl2 : ¬ (j : Int) < (mb : Int) := by omega
      have KQ := Lib.hid (show WQ wr B g (ScM.R x (i + 1) st1) by have k := WQ4.out; obtain ⟨m, rfl⟩ : ∃ m, j = m + 1 := ⟨j - 1, by omega⟩; exact k)
      clear hltj hj MB1
      go_wp2_with fail
      have KQ := KQ.out
      have KF := KO4
      refine ⟨⟨i + 1, _, ?_, rfl, LT.out, KQ, KW.out.trans KF.out⟩, ?_⟩
      ·first | rfl | exact congrArg (Value.int .i64) (by omega)
      ·have := LT.out; simp only [intOf]; omega
   by_cases h4 : kk = 4
   ·subst h4
    have OKL := OK.out.2.2.1 rfl
    obtain ⟨ml, hml⟩ : ∃ ml, l.len = ml := ⟨_, rfl⟩
    have HL := Lib.hid hml
    have l0 : (0 : Int) ≤ (ml : Int) := by omega
    have l1 : (ml : Int) ≤ 100000 := by have := HM.out; omega
    have ML := Nat.mul_le_mul (Nat.le_refl b.len) (show 1 ≤ 1 + ns.length by omega)
    have HC2 := Lib.hid (show st0.ct + (ScM.sz l + (ScM.sz b + b.len * 1)) ≤ 1000000000000 by have := CT.out; omega)
    have SE : Hid (ScM.R x (i + 1) st1 = ScM.CS l b mb st0) := Lib.hid (by
     rw [SE.out, ← HM.out]
     show ScM.cs (ScM.sem l).2 ((ScM.sem b).2.map (ScM.scope 1 [])) (max (ScM.sem l).2.length (ScM.sem b).2.length) st0 = _
     rw [ScM.CS_end, Nat.max_eq_right OKL])
    clear ML OKL hml
    go_upto_region 6 with fail
    rw [HWX.out]
    rw [HXB.out]
    rw [HL.out] at z3
    rw [HM.out] at z4
    go_wp2_with fail
    go_loopw [11] (fun u11 wr2 => ∃ j : Nat, u11 = .int .i64 (j : Int) ∧ j ≤ mb ∧ WQ wr2 B g (ScM.CS l b j st0) ∧ Ko B wx wr2) (fun u11 _ => (mb : Int).toNat - (intOf u11).toNat)
    case atStart => exact ⟨0, rfl, Nat.zero_le _, WQ3.out, K0.out⟩
    case round =>
     obtain ⟨j, rfl, hj, hwq, hko⟩ := hrel
     have WQ4 := Lib.hid hwq
     have KO4 := Lib.hid hko
     have j0 : (0 : Int) ≤ (j : Int) := by omega
     have wrj : wrap64 ((j : Int) + 1) = (j : Int) + 1 := by unfold wrap64; omega
     clear hwq hko z0 z1 z2 z3 z4
     obtain ⟨⟨z0, z1, z2, z3, z4⟩, -⟩ := (BXK.out _ KO4.out).five
     rw [HM.out] at z4
     rw [HL.out] at z3
     by_cases hltj : j < mb
     ·have hj2 : j < b.len := by rw [HM.out]; exact hltj
      obtain ⟨md, EB⟩ : ∃ md, b.elems[j]? = some (.blk md) := by
       obtain ⟨q, y2, u0, e, hy2, cc0, rd2⟩ := Sl.at1 (SBK.out _ KO4.out) hj2
       obtain ⟨md, w0, rfl, he2, sm⟩ := Rd.is_b rd2 rfl
       exact ⟨md, hy2⟩
      have EBH := Lib.hid EB
      have BK := Lib.hid (fun (W : World) (k : Ko B wx W) => blk_at (SBK.out W k) hj2 EBH.out)
      have CF := Lib.hid (ScM.CS_fit WL.out WB.out RL.out RB.out EB HC2.out)
      have DB := Lib.hid (fun (W : World) (k : Ko B wx W) (h : WQ W B g (ScM.CA l b j st0)) (v : Value) (s : Sl md.len (Rd W P md).row 5 v) => QB.out _ (List.mem_of_getElem? EBH.out) md rfl .nil W B g _ P P _ (.slice none 0 0) (.slice none 0 0) 1 [] HNE.out trivial trivial h s HP.out (strs_nil _ P) HP.out (sl_nil _ P 7) (by have := CF.out; show _ + (1 + 0 + _ + 0) ≤ _; omega))
      have CS1 := Lib.hid (ScM.CS_some (l := l) EB st0)
      have LTJ := Lib.hid hltj
      have hl2 : (j : Int) < (mb : Int) := by omega
      clear EB hj2 hltj hj
      by_cases hq : j < ml
      ·have hq1 : (j : Int) < (ml : Int) := by omega
       have hq2 : (j : Int) + 1 ≤ (ml : Int) := by omega
       have hq3 : (ml : Int) ≤ (d3 : Int) := by have := (Sl.len (SLK.out _ KO4.out)).2.1; have := HL.out; omega
       obtain ⟨q3, rfl⟩ : ∃ q, A3 = some q := by
        obtain ⟨q, cs, y, e, -⟩ := Sl.at (SLK.out _ KO4.out) (show j < l.len by rw [HL.out]; exact hq)
        exact ⟨q, e⟩
       obtain ⟨y3, hy3, S1⟩ := Sl.sub1 (SLK.out _ KO4.out) (show j < l.len by rw [HL.out]; exact hq)
       have S1H := Lib.hid S1
       have C1 := Lib.hid (fun d (hd : 1 ≤ d) => Q1.out y3 (List.mem_of_getElem? hy3) wr B g _ P _ WQ4.out (S1H.out d hd) HP.out (by have := ScM.CA_fit WL.out WB.out RL.out RB.out hy3 HC2.out; show _ + (ScM.sz y3 + 0) ≤ _; omega))
       have CA1 := Lib.hid (ScM.CA_some (b := b) hy3 st0)
       clear S1 hy3 hq
       go_wp2_with (first
        |(go_at_call 46; refine (C1.out _ (by omega)).mono ?_; rintro e w5 ⟨rfl, h5, kp5⟩; have H5 := Lib.hid h5; have K5 := Lib.hid (KO4.out.trans kp5); clear h5 kp5 z0 z1 z2 z3 z4; obtain ⟨⟨z0, z1, z2, z3, z4⟩, -⟩ := (BXK.out _ K5.out).five; rw [HM.out] at z4; obtain ⟨q, A9, d9, rfl, cc0, sm⟩ := BK.out _ K5.out; have D1 := Lib.hid (DB.out _ K5.out (by rw [CA1.out]; exact H5.out) _ sm); clear sm)
        |(go_at_call 23; refine D1.out.mono ?_; rintro e w7 ⟨rfl, h7, kp7⟩; have H7 := Lib.hid h7; have K7 := Lib.hid (K5.out.trans kp7); clear h7 kp7))
       refine ⟨⟨j + 1, ?_, LTJ.out, by rw [CS1.out]; exact H7.out, K7.out⟩, ?_⟩
       ·first | rfl | exact congrArg (Value.int .i64) (wrj.trans (by omega))
       ·have := LTJ.out; simp only [intOf]; omega
      ·have hq1 : ¬ (j : Int) < (ml : Int) := by omega
       have CA1 := Lib.hid (ScM.CA_none (l := l) (b := b) (i := j) (by rw [HL.out]; omega) st0)
       obtain ⟨q, A9, d9, rfl, cc0, sm⟩ := BK.out _ KO4.out
       have D1 := Lib.hid (DB.out _ KO4.out (by rw [CA1.out]; exact WQ4.out) _ sm)
       clear sm hq
       go_wp2_with (go_at_call 23; refine D1.out.mono ?_; rintro e w7 ⟨rfl, h7, kp7⟩; have H7 := Lib.hid h7; have K7 := Lib.hid (KO4.out.trans kp7); clear h7 kp7)
       refine ⟨⟨j + 1, ?_, LTJ.out, by rw [CS1.out]; exact H7.out, K7.out⟩, ?_⟩
       ·first | rfl | exact congrArg (Value.int .i64) (wrj.trans (by omega))
       ·have := LTJ.out; simp only [intOf]; omega
     ·have hl2 : ¬ (j : Int) < (mb : Int) := by omega
      have KQ := Lib.hid (show WQ wr B g (ScM.R x (i + 1) st1) by rw [SE.out]; have e : j = mb := (by omega); rw [← e]; exact WQ4.out)
      clear hltj hj
      go_wp2_with fail
      have KQ := KQ.out
      have KF := KO4
      refine ⟨⟨i + 1, _, ?_, rfl, LT.out, KQ, KW.out.trans KF.out⟩, ?_⟩
      ·first | rfl | exact congrArg (Value.int .i64) (by omega)
      ·have := LT.out; simp only [intOf]; omega
   by_cases h6 : kk = 6
   ·subst h6
    have CTP := Lib.hid (show (ScM.limit ns a st0).ct = st0.ct from limit_ct ns a st0)
    have WQ5 := Lib.hid (show WQ wx B g (ScM.limit ns a st0) by obtain ⟨vn, vo, h⟩ := WQ3.out; exact ⟨_, _, h.conv (limit_same ns a st0).1 (limit_same ns a st0).2 (Nat.le_of_eq (limit_ct ns a st0).symm) (by rw [limit_ct]; exact h.max)⟩)
    have C1 := Lib.hid (QL.out _ B g (ScM.limit ns a st0) P _ WQ5.out (SLK.out _ K0.out) HP.out (by have := CT.out; have := CTP.out; omega))
    have CE := Lib.hid (GE.calm WL.out RL.out (ScM.limit ns a st0))
    obtain ⟨st2, hst2⟩ : ∃ st2, ScM.runs (ScM.sem l).2 (ScM.limit ns a st0) = st2 := ⟨_, rfl⟩
    have HC2 := Lib.hid (show st2.ct + (ScM.sz b + b.len * (1 + ns.length)) ≤ 1000000000000 by rw [← hst2]; have := CE.out; have := CT.out; have := CTP.out; omega)
    have SE : Hid (ScM.R x (i + 1) st1 = ScM.runs ((ScM.sem b).2.map (ScM.scope 2 ns)) st2) := Lib.hid (by rw [SE.out, ← hst2]; rfl)
    rw [hst2] at C1
    clear hst2 CE
    go_upto_region 6 with fail
    rw [HWX.out]
    rw [HXB.out]
    go_wp2_with (go_at_call 46; refine C1.out.mono ?_; rintro e w5 ⟨rfl, h5, kp5⟩; have H5 := Lib.hid h5; have K5 := Lib.hid (K0.out.trans kp5); clear h5 kp5 z0 z1 z2 z3 z4; obtain ⟨⟨z0, z1, z2, z3, z4⟩, -⟩ := (BXK.out _ K5.out).five; rw [HM.out] at z4)
    go_loopw [11] (fun u11 wr2 => ∃ j : Nat, u11 = .int .i64 (j : Int) ∧ j ≤ mb ∧ WQ wr2 B g (ScM.RS 2 ns b j st2) ∧ Ko B wx wr2) (fun u11 _ => (mb : Int).toNat - (intOf u11).toNat)
    case atStart => exact ⟨0, rfl, Nat.zero_le _, H5.out, K5.out⟩
    case round =>
     obtain ⟨j, rfl, hj, hwq, hko⟩ := hrel
     have WQ4 := Lib.hid hwq
     have KO4 := Lib.hid hko
     have j0 : (0 : Int) ≤ (j : Int) := by omega
     have wrj : wrap64 ((j : Int) + 1) = (j : Int) + 1 := by unfold wrap64; omega
     clear hwq hko z0 z1 z2 z3 z4
     obtain ⟨⟨z0, z1, z2, z3, z4⟩, -⟩ := (BXK.out _ KO4.out).five
     rw [HM.out] at z4
     by_cases hltj : j < mb
     ·obtain ⟨q, y2, u0, rfl, hy2, cc0, rd2⟩ := Sl.at1 (SBK.out _ KO4.out) (by rw [HM.out]; exact hltj)
      rw [Nat.mul_one] at cc0
      obtain ⟨md, w0, rfl, he2, sm⟩ := Rd.is_b rd2 rfl
      simp only [Array.mk.injEq, List.cons.injEq, and_true] at he2
      subst he2
      obtain ⟨A9, d9, rfl⟩ : ∃ A c, u0 = .slice A md.len c := by obtain ⟨A, c, e, -⟩ := sm; exact ⟨A, c, e⟩
      have D1 := Lib.hid (QB.out _ (List.mem_of_getElem? hy2) md rfl .nil wr.drew B g _ P P _ (.slice A2 ns.length d2) (.slice none 0 0) 2 ns HNE.out trivial trivial WQ4.out.drew (sm.ko ((Ko.refl B wr).drew) HP.out) HP.out (SNK.out _ KO4.out.drew) HP.out (sl_nil _ P 7) (by have := RS_fit (k := 2) (ps := ns) WB.out RB.out hy2 HC2.out; show _ + (1 + _ + _ + 0) ≤ _; omega))
      have RS1 := Lib.hid (ScM.RS_succ (k := 2) (ps := ns) hy2 st2)
      have LTJ := Lib.hid hltj
      have hl2 : (j : Int) < (mb : Int) := by omega
      clear rd2 sm hy2 hltj hj
      go_wp2_with fail
      go_region_with (refine D1.out.mono ?_; rintro e w7 ⟨rfl, h7, kp7⟩; have H7 := Lib.hid h7; have K7 := Lib.hid (KO4.out.drew.trans kp7); clear h7 kp7)
      all_goals
       go_wp2_with fail
       refine ⟨⟨j + 1, ?_, LTJ.out, by rw [RS1.out]; exact H7.out, K7.out⟩, ?_⟩
       ·first | rfl | exact congrArg (Value.int .i64) (wrj.trans (by omega))
       ·have := LTJ.out; simp only [intOf]; omega
     ·have hl2 : ¬ (j : Int) < (mb : Int) := by omega
      have RE2 := Lib.hid (ScM.RS_end (k := 2) (ps := ns) (x := b) (i := j) (by rw [HM.out]; omega) st2)
      clear hltj hj
      go_wp2_with fail
      have KQ := WQ4.out
      rw [RE2.out] at KQ
      have KQ : WQ wr B g (ScM.R x (i + 1) st1) := by rw [SE.out]; exact KQ
      have KF := KO4
      refine ⟨⟨i + 1, _, ?_, rfl, LT.out, KQ, KW.out.trans KF.out⟩, ?_⟩
      ·first | rfl | exact congrArg (Value.int .i64) (by omega)
      ·have := LT.out; simp only [intOf]; omega
   by_cases h7 : kk = 7
   ·subst h7
    have CTP := Lib.hid (show (ScM.limit ns a st0).ct = st0.ct from limit_ct ns a st0)
    have WQ5 := Lib.hid (show WQ wx B g (ScM.limit ns a st0) by obtain ⟨vn, vo, h⟩ := WQ3.out; exact ⟨_, _, h.conv (limit_same ns a st0).1 (limit_same ns a st0).2 (Nat.le_of_eq (limit_ct ns a st0).symm) (by rw [limit_ct]; exact h.max)⟩)
    have C1 := Lib.hid (QL.out _ B g (ScM.limit ns a st0) P _ WQ5.out (SLK.out _ K0.out) HP.out (by have := CT.out; have := CTP.out; omega))
    have CE := Lib.hid (GE.calm WL.out RL.out (ScM.limit ns a st0))
    obtain ⟨st2, hst2⟩ : ∃ st2, ScM.runs (ScM.sem l).2 (ScM.limit ns a st0) = st2 := ⟨_, rfl⟩
    have HC2 := Lib.hid (show st2.ct + (ScM.sz b + b.len * (1 + ns.length)) ≤ 1000000000000 by rw [← hst2]; have := CE.out; have := CT.out; have := CTP.out; omega)
    have SE : Hid (ScM.R x (i + 1) st1 = ScM.runs ((ScM.sem b).2.map (ScM.scope 2 ns)) st2) := Lib.hid (by rw [SE.out, ← hst2]; rfl)
    rw [hst2] at C1
    clear hst2 CE
    go_upto_region 6 with fail
    rw [HWX.out]
    rw [HXB.out]
    go_wp2_with (go_at_call 46; refine C1.out.mono ?_; rintro e w5 ⟨rfl, h5, kp5⟩; have H5 := Lib.hid h5; have K5 := Lib.hid (K0.out.trans kp5); clear h5 kp5 z0 z1 z2 z3 z4; obtain ⟨⟨z0, z1, z2, z3, z4⟩, -⟩ := (BXK.out _ K5.out).five; rw [HM.out] at z4)
    go_loopw [11] (fun u11 wr2 => ∃ j : Nat, u11 = .int .i64 (j : Int) ∧ j ≤ mb ∧ WQ wr2 B g (ScM.RS 2 ns b j st2) ∧ Ko B wx wr2) (fun u11 _ => (mb : Int).toNat - (intOf u11).toNat)
    case atStart => exact ⟨0, rfl, Nat.zero_le _, H5.out, K5.out⟩
    case round =>
     obtain ⟨j, rfl, hj, hwq, hko⟩ := hrel
     have WQ4 := Lib.hid hwq
     have KO4 := Lib.hid hko
     have j0 : (0 : Int) ≤ (j : Int) := by omega
     have wrj : wrap64 ((j : Int) + 1) = (j : Int) + 1 := by unfold wrap64; omega
     clear hwq hko z0 z1 z2 z3 z4
     obtain ⟨⟨z0, z1, z2, z3, z4⟩, -⟩ := (BXK.out _ KO4.out).five
     rw [HM.out] at z4
     by_cases hltj : j < mb
     ·obtain ⟨q, y2, u0, rfl, hy2, cc0, rd2⟩ := Sl.at1 (SBK.out _ KO4.out) (by rw [HM.out]; exact hltj)
      rw [Nat.mul_one] at cc0
      obtain ⟨md, w0, rfl, he2, sm⟩ := Rd.is_b rd2 rfl
      simp only [Array.mk.injEq, List.cons.injEq, and_true] at he2
      subst he2
      obtain ⟨A9, d9, rfl⟩ : ∃ A c, u0 = .slice A md.len c := by obtain ⟨A, c, e, -⟩ := sm; exact ⟨A, c, e⟩
      have D1 := Lib.hid (QB.out _ (List.mem_of_getElem? hy2) md rfl .nil wr.drew B g _ P P _ (.slice A2 ns.length d2) (.slice none 0 0) 2 ns HNE.out trivial trivial WQ4.out.drew (sm.ko ((Ko.refl B wr).drew) HP.out) HP.out (SNK.out _ KO4.out.drew) HP.out (sl_nil _ P 7) (by have := RS_fit (k := 2) (ps := ns) WB.out RB.out hy2 HC2.out; show _ + (1 + _ + _ + 0) ≤ _; omega))
      have RS1 := Lib.hid (ScM.RS_succ (k := 2) (ps := ns) hy2 st2)
      have LTJ := Lib.hid hltj
      have hl2 : (j : Int) < (mb : Int) := by omega
      clear rd2 sm hy2 hltj hj
      go_wp2_with fail
      go_region_with (refine D1.out.mono ?_; rintro e w7 ⟨rfl, h7, kp7⟩; have H7 := Lib.hid h7; have K7 := Lib.hid (KO4.out.drew.trans kp7); clear h7 kp7)
      all_goals
       go_wp2_with fail
       refine ⟨⟨j + 1, ?_, LTJ.out, by rw [RS1.out]; exact H7.out, K7.out⟩, ?_⟩
       ·first | rfl | exact congrArg (Value.int .i64) (wrj.trans (by omega))
       ·have := LTJ.out; simp only [intOf]; omega
     ·have hl2 : ¬ (j : Int) < (mb : Int) := by omega
      have RE2 := Lib.hid (ScM.RS_end (k := 2) (ps := ns) (x := b) (i := j) (by rw [HM.out]; omega) st2)
      clear hltj hj
      go_wp2_with fail
      have KQ := WQ4.out
      rw [RE2.out] at KQ
      have KQ : WQ wr B g (ScM.R x (i + 1) st1) := by rw [SE.out]; exact KQ
      have KF := KO4
      refine ⟨⟨i + 1, _, ?_, rfl, LT.out, KQ, KW.out.trans KF.out⟩, ?_⟩
      ·first | rfl | exact congrArg (Value.int .i64) (by omega)
      ·have := LT.out; simp only [intOf]; omega
   have q12 : (kk == 12) = false := by simpa using h12
   have q8 : (kk == 8) = false := by simpa using h8
   have q8n : (kk != 8) = true := by simpa using h8
   have q4 : (kk == 4) = false := by simpa using h4
   have q4n : (kk != 4) = true := by simpa using h4
   have q6 : (kk == 6) = false := by simpa using h6
   have q7 : (kk == 7) = false := by simpa using h7
   have q1 : (kk == 1) = false := by simpa using h1
   obtain ⟨stp, sc, ea, en, eo, ec⟩ := act_rest (k := kk) (a := a) (ns := ns) (l := l) (L := (ScM.sem l).2) (B := (ScM.sem b).2) (st := st0) h1 h12 h4 h6 h7 h8
   rw [ea] at SE
   have CTP := Lib.hid (show stp.ct = st0.ct from ec)
   have WQ5 := Lib.hid (show WQ wx B g stp by obtain ⟨vn, vo, h⟩ := WQ3.out; exact ⟨_, _, h.conv en eo (Nat.le_of_eq ec.symm) (by rw [ec]; exact h.max)⟩)
   clear ea en eo ec h1 h12 h4 h6 h7 h8
   have C1 := Lib.hid (QL.out _ B g stp P _ WQ5.out (SLK.out _ K0.out) HP.out (by have := CT.out; have := CTP.out; omega))
   have CE := Lib.hid (GE.calm WL.out RL.out stp)
   obtain ⟨st2, hst2⟩ : ∃ st2, ScM.runs (ScM.sem l).2 stp = st2 := ⟨_, rfl⟩
   have ML := Nat.mul_le_mul (Nat.le_refl b.len) (show 1 + 0 ≤ 1 + ns.length by omega)
   have HC2 := Lib.hid (show st2.ct + (ScM.sz b + b.len * (1 + ([] : List ByteArray).length)) ≤ 1000000000000 by rw [← hst2]; have := CE.out; have := CT.out; have := CTP.out; show _ + (_ + b.len * (1 + 0)) ≤ _; omega)
   rw [hst2] at C1 SE
   clear hst2 ML CE
   go_upto_region 6 with fail
   rw [HWX.out]
   rw [HXB.out]
   go_wp2_with (go_at_call 46; refine C1.out.mono ?_; rintro e w5 ⟨rfl, h5, kp5⟩; have H5 := Lib.hid h5; have K5 := Lib.hid (K0.out.trans kp5); clear h5 kp5 z0 z1 z2 z3 z4; obtain ⟨⟨z0, z1, z2, z3, z4⟩, -⟩ := (BXK.out _ K5.out).five; rw [HM.out] at z4)
   go_loopw [11] (fun u11 wr2 => ∃ j : Nat, u11 = .int .i64 (j : Int) ∧ j ≤ mb ∧ WQ wr2 B g (ScM.RS sc [] b j st2) ∧ Ko B wx wr2) (fun u11 _ => (mb : Int).toNat - (intOf u11).toNat)
   case atStart => exact ⟨0, rfl, Nat.zero_le _, H5.out, K5.out⟩
   case round =>
    obtain ⟨j, rfl, hj, hwq, hko⟩ := hrel
    have WQ4 := Lib.hid hwq
    have KO4 := Lib.hid hko
    have j0 : (0 : Int) ≤ (j : Int) := by omega
    have wrj : wrap64 ((j : Int) + 1) = (j : Int) + 1 := by unfold wrap64; omega
    clear hwq hko z0 z1 z2 z3 z4
    obtain ⟨⟨z0, z1, z2, z3, z4⟩, -⟩ := (BXK.out _ KO4.out).five
    rw [HM.out] at z4
    by_cases hltj : j < mb
    ·obtain ⟨q, y2, u0, rfl, hy2, cc0, rd2⟩ := Sl.at1 (SBK.out _ KO4.out) (by rw [HM.out]; exact hltj)
     rw [Nat.mul_one] at cc0
     obtain ⟨md, w0, rfl, he2, sm⟩ := Rd.is_b rd2 rfl
     simp only [Array.mk.injEq, List.cons.injEq, and_true] at he2
     subst he2
     obtain ⟨A9, d9, rfl⟩ : ∃ A c, u0 = .slice A md.len c := by obtain ⟨A, c, e, -⟩ := sm; exact ⟨A, c, e⟩
     have D1 := Lib.hid (QB.out _ (List.mem_of_getElem? hy2) md rfl .nil wr B g _ P P _ (.slice none 0 0) (.slice none 0 0) sc [] HNE.out trivial trivial WQ4.out sm HP.out (strs_nil _ P) HP.out (sl_nil _ P 7) (by have := RS_fit (k := sc) (ps := []) WB.out RB.out hy2 HC2.out; show _ + (1 + _ + _ + 0) ≤ _; omega))
     have RS1 := Lib.hid (ScM.RS_succ (k := sc) (ps := []) hy2 st2)
     have LTJ := Lib.hid hltj
     have hl2 : (j : Int) < (mb : Int) := by omega
     clear rd2 sm hy2 hltj hj
     go_wp2_with (go_at_call 23; refine D1.out.mono ?_; rintro e w7 ⟨rfl, h7, kp7⟩; have H7 := Lib.hid h7; have K7 := Lib.hid (KO4.out.trans kp7); clear h7 kp7)
     all_goals
      refine ⟨⟨j + 1, ?_, LTJ.out, by rw [RS1.out]; exact H7.out, K7.out⟩, ?_⟩
      ·first | rfl | exact congrArg (Value.int .i64) (wrj.trans (by omega))
      ·have := LTJ.out; simp only [intOf]; omega
    ·have hl2 : ¬ (j : Int) < (mb : Int) := by omega
     have RE2 := Lib.hid (ScM.RS_end (k := sc) (ps := []) (x := b) (i := j) (by rw [HM.out]; omega) st2)
     clear hltj hj
     go_wp2_with fail
     have KQ := WQ4.out
     rw [RE2.out] at KQ
     have KQ : WQ wr B g (ScM.R x (i + 1) st1) := by rw [SE.out]; exact KQ
     have KF := KO4
     refine ⟨⟨i + 1, _, ?_, rfl, LT.out, KQ, KW.out.trans KF.out⟩, ?_⟩
     ·first | rfl | exact congrArg (Value.int .i64) (by omega)
     ·have := LT.out; simp only [intOf]; omega
  ·have hl1 : ¬ (i : Int) < (n : Int) := by omega
   have RE1 := Lib.hid (ScM.R_end (x := x) (i := i) (by rw [HN.out]; omega) st1)
   clear hlt hi
   have EX1 := Lib.hid (ScM.R_ext (fun y hy => ScM.sem_ext y (ScM.wf_elems HW.out y hy)) st1 i)
   have CT1 := Lib.hid (show (ScM.R x i st1).ct + ScM.sz t ≤ 1000000000000 by have := EX1.out.ct; have := ScM.tot_le ScM.sz x.elems i; have := ScM.sum_sz x; have := HC1.out; omega)
   have C1 := Lib.hid (HTE.out _ B g _ P _ WQ2.out (HT.out.ko KP.out HP.out) HP.out CT1.out)
   have CE := Lib.hid (ScM.R_calm_all (fun y hy => ScM.sem_ext y (ScM.wf_elems HWT.out y hy)) HRT.out (.inl rfl) (ScM.R x i st1))
   have S5 := Lib.hid (show (ScM.runs (ScM.sem t).2 (ScM.R x i st1)).names = st.names ++ (ps ++ ScM.dcI x i) by rw [CE.out.names, EX1.out.names, HNM.out, List.append_nil, List.append_assoc])
   go_wp2_with (go_at_call 46; refine C1.out.mono ?_; rintro e w5 ⟨rfl, ⟨vn5, vo5, h5⟩, kp5⟩; obtain ⟨A5, c5, rfl⟩ := own_shape h5.names; have l6 : (st.names.length : Int) ≤ (c5 : Int) := (by have l5 := h5.len.2.1; have l7 := congrArg List.length S5.out; rw [List.length_append] at l7; omega); obtain ⟨⟨z0, z1⟩, u0, u1⟩ := h5.blk.twoF; have H5 := Lib.hid h5; have K5 := Lib.hid (KP.out.trans kp5); clear h5 kp5)
   go_end0
   have r := H5.out.cut (st' := ScM.scope k ps (fun s => ScM.runs (ScM.sem t).2 (ScM.runs (ScM.sem x).2 s)) st) S5.out rfl (by rw [RE1.out, ← HS1.out]; rfl) (by rw [RE1.out, ← HS1.out]; rfl)
   exact ⟨rfl, r.1, K5.out.trans r.2⟩
end Go.Proofs.Yteakhlnnepjhpaa
