/- The document's own Outer: exps. -/
import Derived.Test.YteakhlnnepjhpaaSdCx
import Derived.Deep.RegionHeld3
import Derived.Deep.CutRange
namespace Go.Proofs.Yteakhlnnepjhpaa
open Go.RowKit PrM
set_option linter.unusedVariables false
set_option linter.unusedSimpArgs false
def OE (x : X) : Prop := ∀ (w : World) (B g : Nat) (st : ScM.Sc) (P : Nat → Prop) (v : Value), WQ w B g st → Sl x.len (Rd w P x).row 7 v → (∀ q, P q → q < B) → st.ct + ScM.sz x ≤ 1000000000000 → Calls Try.prog 46 #[.pointer (some ⟨g, 0, none⟩), v] w (OP w B g (ScM.runs (ScM.sem x).2 st))
def OB (x : X) : Prop := ∀ (t : X) (w : World) (B g : Nat) (st : ScM.Sc) (P P2 : Nat → Prop) (v pv tv : Value) (k : Int) (ps : List ByteArray), OE t → ScM.wf t → ScM.row 7 t → WQ w B g st → Sl x.len (Rd w P x).row 5 v → (∀ q, P q → q < B) → Strs w P2 pv ps → (∀ q, P2 q → q < B) → Sl t.len (Rd w P t).row 7 tv → st.ct + (1 + ps.length + ScM.sz x + ScM.sz t) ≤ 1000000000000 → Calls Try.prog 23 #[.pointer (some ⟨g, 0, none⟩), v, pv, tv] w (OP w B g (ScM.scope k ps (fun s => ScM.runs (ScM.sem t).2 (ScM.runs (ScM.sem x).2 s)) st))
def OQ (x : X) : Prop := ScM.wf x → x.fit 100000 → PrM.Shp x → match x with
 | .e _ _ _ _ _ l f => OE l ∧ ∀ y ∈ f.elems, ∀ ps b, y = .f ps b → OB b
 | .f _ b => OB b
 | .s _ _ _ l b => OE l ∧ (∀ y ∈ l.elems, OE (X.one y)) ∧ ∀ y ∈ b.elems, ∀ m, y = .blk m → OB m
 | .blk m => OB m
 | _ => True
theorem shp_elems : ∀ x : X, PrM.Shp x → ∀ y ∈ x.elems, PrM.Shp y
 | .cons h t, a, y, hy => by
  rcases List.mem_cons.1 hy with rfl | hy
  ·exact a.1
  ·exact shp_elems t a.2 y hy
 | .nil, _, _, hy => nomatch hy
 | .e .., _, _, hy => nomatch hy
 | .f .., _, _, hy => nomatch hy
 | .s .., _, _, hy => nomatch hy
 | .blk _, _, _, hy => nomatch hy
theorem WQ.drew {w : World} {B g : Nat} {st : ScM.Sc} (h : WQ w B g st) : WQ w.drew B g st := by obtain ⟨_, _, h⟩ := h; exact ⟨_, _, h.drew⟩
theorem Sl.at7e {w : World} {P : Nat → Prop} {x : X} {p : Addr} {n c i : Nat} {k a m : Int} {sv : ByteArray} {op : Int} {l f : X} (h : Sl x.len (Rd w P x).row 7 (.slice (some p) n c)) (hi : i < x.len) (hy : x.elems[i]? = some (.e k a m sv op l f)) :
  ∃ A5 d5 A6 d6, (w.cell? ⟨(p.add (i * 7)).block, (p.add (i * 7)).off + 5, none⟩ = some (.slice A5 l.len d5) ∧ w.cell? ⟨(p.add (i * 7)).block, (p.add (i * 7)).off + 6, none⟩ = some (.slice A6 f.len d6)) ∧ Sl l.len (Rd w P l).row 7 (.slice A5 l.len d5) ∧ Sl f.len (Rd w P f).row 2 (.slice A6 f.len d6) := by
 obtain ⟨q, y, v0, v1, v2, v3, v4, v5, v6, e, hy2, ⟨c0, c1, c2, c3, c4, c5, c6⟩, rd⟩ := Sl.at7 h hi
 obtain rfl := Option.some.inj e
 obtain rfl := Option.some.inj (hy2.symm.trans hy)
 obtain ⟨k', a', m', sv', op', l', f', w5, w6, he0, he, sl, sf⟩ := Rd.is_e rd rfl
 injection he0 with i1 i2 i3 i4 i5 i6 i7
 subst i1 i2 i3 i4 i5 i6 i7
 simp only [Array.mk.injEq, List.cons.injEq, and_true] at he
 obtain ⟨rfl, rfl, rfl, rfl, rfl, rfl, rfl⟩ := he
 obtain ⟨A5, d5, rfl⟩ : ∃ A c, v5 = .slice A l.len c := by obtain ⟨A, c, e, -⟩ := sl; exact ⟨A, c, e⟩
 obtain ⟨A6, d6, rfl⟩ : ∃ A c, v6 = .slice A f.len c := by obtain ⟨A, c, e, -⟩ := sf; exact ⟨A, c, e⟩
 exact ⟨A5, d5, A6, d6, ⟨c5, c6⟩, sl, sf⟩
theorem Blk.twoF {W : World} {b : Nat} {v0 v1 : Value} {t : TypeId} (h : Blk W b #[v0, v1] t) : (W.cell? ⟨b, 0, none⟩ = some v0 ∧ W.cell? ⟨b, 1, none⟩ = some v1) ∧ W.frozen? ⟨b, 0, none⟩ = false ∧ W.frozen? ⟨b, 1, none⟩ = false := by
 have h : W.heap[b]? = _ := h
 simp [World.cell?, World.frozen?, h]
theorem blkO1 {W : World} {b : Nat} {v0 v1 : Value} {t : TypeId} (h : Blk W b #[v0, v1] t) (u : Value) : Blk (W.setCell ⟨b, 1, none⟩ u) b #[v0, u] t := by
 have h : W.heap[b]? = _ := h
 show _ = _
 simp [World.setCell, Array.getElem?_modify, h]
theorem WO.conv {w : World} {B g : Nat} {vn vo : Value} {st st' : ScM.Sc} (h : WO w B g vn vo st) (e1 : st'.names = st.names) (e2 : st'.outer = st.outer) (e3 : st.ct ≤ st'.ct) (e4 : st'.ct ≤ 1000000000000) : WO w B g vn vo st' :=
 ⟨h.blk, by rw [e1]; exact h.names, by rw [e2]; exact h.outer, h.apart, h.hg, by rw [e1]; exact Nat.le_trans h.nlen e3, by rw [e2]; exact Nat.le_trans h.olen e3, e4⟩
theorem WO.noted {w w1 w2 w3 : World} {B g : Nat} {vn vo vo' : Value} {st st' : ScM.Sc} {s : ByteArray} (h : WO w B g vn vo st) (b1 : Below w.heap.size w w1) (gr : w1.grownBy w2 vo.ownBlock) (o : Only (fun b => b = g) w2 w3)
  (own0 : w2.ownsRow B 9 1 vo' (st.outer.length + 1) ((st.outer ++ [s]).map .string)) (hv : vo'.ownBlock = vo.ownBlock ∨ vo'.ownBlock = some w1.heap.size) (b : Blk w3 g #[vn, vo'] 72)
  (e1 : st'.names = st.names) (e2 : st'.outer = st.outer ++ [s]) (e3 : st'.ct = st.ct + 1) (hm : st'.ct ≤ 1000000000000) : WO w3 B g vn vo' st' ∧ Ko B w w3 := by
 have own : w2.ownsRow B 9 1 vo' (st.outer ++ [s]).length ((st.outer ++ [s]).map .string) := by rw [List.length_append]; exact own0
 have z1 := b1.size
 have z2 := gr.size
 have s2 : ∀ q, q < w.heap.size → vo.ownBlock ≠ some q → w2.heap[q]? = w.heap[q]? := fun q l m => (gr.block q (by omega) (fun e => m e.symm)).trans (b1.block q l)
 have s3 : ∀ q, q < w.heap.size → vo.ownBlock ≠ some q → q ≠ g → w3.heap[q]? = w.heap[q]? := fun q l m k => (o.block q (by omega) k).trans (s2 q l m)
 have hg2 : Blk w2 g #[vn, vo] 72 := (s2 g h.blk.lt (own_blk h.outer h.blk (by decide))).trans h.blk
 refine ⟨⟨b, ?_, ?_, ?_, h.hg, by rw [e1, e3]; exact Nat.le_succ_of_le h.nlen, ?_, hm⟩, ⟨?_, fun q cs ty k x y => ?_⟩⟩
 ·rw [e1]
  exact own_same h.names fun q e => s3 q (own_lt h.names q e).2 (h.apart q e) fun x => own_blk h.names h.blk (by decide) (x ▸ e)
 ·rw [e2]
  exact own_same own fun q e => o.block q (own_lt own q e).2 fun x => own_blk own hg2 (by decide) (x ▸ e)
 ·intro q e
  rcases hv with k | k
  ·rw [k]; exact h.apart q e
  ·rw [k]
   have := (own_lt h.names q e).2
   intro x
   have := Option.some.inj x
   omega
 ·rw [e2, e3, List.length_append]
  exact Nat.succ_le_succ h.olen
 ·have hb := h.base
  exact (b1.mono hb).trans (((Below.refl B w1).grown gr (by omega) (fun k e => (own_lt h.outer k e).1)).trans (o.below (fun n e => by subst e; exact h.hg) (by omega)))
 ·refine (s3 q k.lt (fun e => own_blk h.outer k (fun e2 => y e2.symm) e) fun e => ?_).trans k
  subst e
  have a : w.heap[q]? = _ := h.blk
  have k : w.heap[q]? = _ := k
  rw [a] at k
  injection k with k
  injection k with _ k
  exact x k.symm
/-- append of one text as a step of a drawn region; where the row lies then. -/
theorem step_append_o {w : World} {ops : Array Oper} {o : Oper} {a : Act} {K : Act → World → Prop} {Q : Exit → Act → World → Prop} {E : Prop} (hgd : o.guard = none) (s x : Operand)
  (ho : o.op = .call { callee := .builtin .append, args := #[s, x], argTypes := #[33, 33] })
  (base : Nat) (v : Value) (l : List ByteArray) (hs : a.eval s = v) (hown : w.ownsRow base 9 1 v l.length (l.map Value.string))
  (b : Nat) (hx : a.eval x = .slice (some ⟨b, 0, none⟩) 1 1) (c : ByteArray) (hu : w.cell? ⟨b, 0, none⟩ = some (.string c)) (hlen : l.length ≤ 1000000000000) (hb : base ≤ w.heap.size)
  (h : ∀ v' w', w'.ownsRow base 9 1 v' (l.length + 1) ((l ++ [c]).map Value.string) → w.grownBy w' v.ownBlock → (v'.ownBlock = v.ownBlock ∨ v'.ownBlock = some w.heap.size) → K (a.put o.dst v') w') :
  if Region.wanted o (yielded ops a.tmps) = true then Oper.wp Try.prog o a w K Q else E := by
 have hw : Region.wanted o (yielded ops a.tmps) = true := by simp [Region.wanted, hgd]
 rw [if_pos hw]
 obtain ⟨i, hi, hz, k1, k2⟩ := info_parts infoT9
 obtain ⟨v', w', hrun, h2, h3, _, h5⟩ := run_append_own_at (P := Try.prog) w base 33 o.type 9 i _ 1 16 Try.underlying33 hi hz k1 k2 rfl (by decide) v l.length (l.map Value.string) hown ⟨b, 0, none⟩ 1 1 [.string c] rfl (fun j y hj => by
  match j, hj with
  | 0, hj => simp at hj; subst hj; exact hu) (fun u hu => by simp at hu; subst hu; rfl) (by unfold maxLen; omega) (by omega) hb
 unfold Oper.wp
 simp [execOp, ho, resolve, invoke, builtin, hs, hx, hrun, Result.andThen]
 exact h v' w' (by rw [List.map_append]; exact h2) h3 h5
theorem expSt_same {k : Int} {s : ByteArray} {a : Int} {st : ScM.Sc} {b1 b2 b3 : Bool} (h1 : ScM.has st.names s = b1) (h2 : ScM.builtin s = b2) (h3 : ScM.has st.outer s = b3) (h : (decide (k = 6) && (!b1 && (!b2 && !b3))) = false) : (expSt k s a st).names = st.names ∧ (expSt k s a st).outer = st.outer := by
 unfold expSt
 split
 ·rename_i q
  rw [decide_eq_true q, Bool.true_and] at h
  unfold ScM.use
  rw [h1, h2]
  cases b1 <;> cases b2 <;> try exact ⟨rfl, rfl⟩
  cases b3
  ·cases h
  ·unfold ScM.note ScM.fault
   have e : ∀ t : ScM.Sc, t.outer = st.outer → ScM.has t.outer s = true := fun t e => by rw [e]; exact h3
   rw [if_neg (by decide)]
   split <;> exact ⟨rfl, rfl⟩
 ·exact ⟨rfl, rfl⟩
theorem expSt_note {k : Int} {s : ByteArray} {a : Int} {st : ScM.Sc} {b1 b2 b3 : Bool} (h1 : ScM.has st.names s = b1) (h2 : ScM.builtin s = b2) (h3 : ScM.has st.outer s = b3) (h : (decide (k = 6) && (!b1 && (!b2 && !b3))) = true) : (expSt k s a st).names = st.names ∧ (expSt k s a st).outer = st.outer ++ [s] ∧ (expSt k s a st).ct = st.ct + 1 := by
 simp only [Bool.and_eq_true, decide_eq_true_eq, Bool.not_eq_true'] at h
 obtain ⟨q, rfl, rfl, rfl⟩ := h
 unfold expSt
 rw [if_pos q]
 unfold ScM.use ScM.note
 rw [h1, h2, if_neg (by decide)]
 have e : ScM.has (ScM.fault 14 a st).outer s = false := by
  unfold ScM.fault
  split <;> exact h3
 rw [e, if_neg (by decide)]
 unfold ScM.fault
 split <;> exact ⟨rfl, rfl, rfl⟩
set_option maxRecDepth 20000 in
set_option maxHeartbeats 4000000 in
/-- exps. -/
theorem oexps_row {x : X} (hNE : x = .nil ∨ OE .nil) (hw : ScM.wf x) (hf : x.fit 100000) (hs : PrM.Shp x) (H : ∀ y ∈ x.elems, OQ y) : OE x := by
 intro w B g st P v hk h hP hc
 obtain ⟨A, c, rfl⟩ : ∃ A c, v = .slice A x.len c := by obtain ⟨A, c, e, -⟩ := h; exact ⟨A, c, e⟩
 obtain ⟨n, hn⟩ : ∃ n, x.len = n := ⟨_, rfl⟩
 rw [show (Value.slice A x.len c) = .slice A n c by rw [hn]] at h ⊢
 have HX := Lib.hid h
 have HQ := Lib.hid (fun y hy => H y hy (ScM.wf_elems hw y hy) (fit_el x hf y hy) (shp_elems x hs y hy))
 have HNE := Lib.hid hNE
 have HF := Lib.hid hf
 have HW := Lib.hid hw
 have HN := Lib.hid hn
 have HP := Lib.hid hP
 have HC := Lib.hid hc
 have HK := Lib.hid hk
 have hl := X.fit_len x hf
 rw [hn] at hl
 have n0 : (0 : Int) ≤ (n : Int) := by omega
 have n1 : (n : Int) ≤ 100000 := by omega
 clear h H hw hf hn hP hc hk hl hs hNE
 go_enter Try.func46, Try.ntmps46
 go_wp2_with fail
 go_loopw [4, 5] (fun u4 u5 wr => ∃ (i : Nat) (v : Value), u4 = .int .i64 (i : Int) ∧ u5 = v ∧ i ≤ n ∧ WQ wr B g (ScM.R x i st) ∧ Ko B w wr) (fun u4 _ _ => (n : Int).toNat - (intOf u4).toNat)
 case atStart => exact ⟨0, undef, rfl, rfl, Nat.zero_le _, HK.out, Ko.refl _ _⟩
 case round =>
  obtain ⟨i, v, rfl, rfl, hi, hwk, hkp⟩ := hrel
  have KP := Lib.hid hkp
  have i0 : (0 : Int) ≤ (i : Int) := by omega
  have wri : wrap64 ((i : Int) + 1) = (i : Int) + 1 := by unfold wrap64; omega
  obtain ⟨vn, vo, hwo⟩ := hwk
  have WO1 := Lib.hid hwo
  clear hwo hkp
  by_cases hlt : i < n
  ·obtain ⟨p, y, v0, v1, v2, v3, v4, v5, v6, rfl, hy, ⟨c0, c1, c2, c3, c4, c5, c6⟩, rd⟩ := Sl.at7 (HX.out.ko KP.out HP.out) (by rw [HN.out]; exact hlt)
   obtain ⟨k, a, m, sv, op, l, f, w5, w6, rfl, he, sl, sf⟩ := Rd.is_e rd rfl
   simp only [Array.mk.injEq, List.cons.injEq, and_true] at he
   obtain ⟨rfl, rfl, rfl, rfl, rfl, rfl, rfl⟩ := he
   obtain ⟨A5, d5, rfl⟩ : ∃ A c, v5 = .slice A l.len c := by obtain ⟨A, c, e, -⟩ := sl; exact ⟨A, c, e⟩
   obtain ⟨A6, d6, rfl⟩ : ∃ A c, v6 = .slice A f.len c := by obtain ⟨A, c, e, -⟩ := sf; exact ⟨A, c, e⟩
   have LT := Lib.hid hlt
   have hl1 : (i : Int) < (n : Int) := by omega
   clear rd hlt hi
   have bA := (Below.refl wr.heap.size wr).alloc (Nat.le_refl _) (.cells #[.int .i64 k, .int .i64 a, .int .i64 m, .string sv, .int .i64 op, .slice A5 l.len d5, .slice A6 f.len d6] 39)
   have BX := Lib.hid (Blk.new wr #[.int .i64 k, .int .i64 a, .int .i64 m, .string sv, .int .i64 op, .slice A5 l.len d5, .slice A6 f.len d6] 39)
   have WO2 := Lib.hid (WO1.out.keep bA)
   have KP2 := Lib.hid (Ko.of_below bA WO1.out.base)
   obtain ⟨w2, hw2⟩ : ∃ w2, wr.alloc (.cells #[.int .i64 k, .int .i64 a, .int .i64 m, .string sv, .int .i64 op, .slice A5 l.len d5, .slice A6 f.len d6] 39) = w2 := ⟨_, rfl⟩
   rw [hw2] at BX WO2 KP2
   have HSL := Lib.hid sl
   have HSF := Lib.hid sf
   have HY := Lib.hid hy
   have HW2 := Lib.hid hw2
   clear sl sf bA hy hw2
   go_wp2_with fail
   rw [HW2.out]
   have KB : Hid (∀ W, Below w2.heap.size w2 W → (W.cell? ⟨wr.heap.size, 0, none⟩ = some (.int .i64 k) ∧ W.cell? ⟨wr.heap.size, 3, none⟩ = some (.string sv)) ∧ W.cell? ⟨g, 0, none⟩ = some vn ∧ W.cell? ⟨g, 1, none⟩ = some vo) := Lib.hid fun W b => by
    obtain ⟨⟨x0, x1, x2, x3, x4, x5, x6⟩, -⟩ := (BX.out.keep b).seven
    obtain ⟨⟨y0, y1⟩, -⟩ := (WO2.out.blk.keep b).two
    exact ⟨⟨x0, x3⟩, y0, y1⟩
   obtain ⟨b1, hb1⟩ : ∃ b1, ScM.has (ScM.R x i st).names sv = b1 := ⟨_, rfl⟩
   obtain ⟨b2, hb2⟩ : ∃ b2, ScM.builtin sv = b2 := ⟨_, rfl⟩
   obtain ⟨b3, hb3⟩ : ∃ b3, ScM.has (ScM.R x i st).outer sv = b3 := ⟨_, rfl⟩
   have HA1 : Hid (∀ W, Below w2.heap.size w2 W → Calls Try.prog 21 #[vn, .string sv] W fun e w' => e = .returned (.bool b1) ∧ W = w') := Lib.hid fun W b => by
    rw [← hb1]; exact rhas (Txs.of_own (WO2.out.keep b).names) sv (by have := WO2.out.nlen; have := WO2.out.max; omega)
   have HA2 : Hid (∀ W, Calls Try.prog 10 #[.string sv] W fun e w' => e = .returned (.bool b2) ∧ Below W.heap.size W w') := Lib.hid fun W => by rw [← hb2]; exact rbuiltin_any sv W
   have HA3 : Hid (∀ W, Below w2.heap.size w2 W → Calls Try.prog 21 #[vo, .string sv] W fun e w' => e = .returned (.bool b3) ∧ W = w') := Lib.hid fun W b => by
    rw [← hb3]; exact rhas (Txs.of_own (WO2.out.keep b).outer) sv (by have := WO2.out.olen; have := WO2.out.max; omega)
   have HB1 := Lib.hid hb1
   have HB2 := Lib.hid hb2
   have HB3 := Lib.hid hb3
   clear hb1 hb2 hb3
   obtain ⟨bv, hbv⟩ : ∃ bv, (decide (k = 6) && (!b1 && (!b2 && !b3))) = bv := ⟨_, rfl⟩
   have HBV := Lib.hid hbv
   clear hbv
   go_cut [45] from 17 to 45 (fun s45 wx => s45 = .bool bv ∧ Below w2.heap.size w2 wx)
   case first =>
    by_cases q : k = 6
    ·have q1 : (k == 6) = true := by rw [q]; rfl
     have HQ6 := Lib.hid (decide_eq_true q)
     clear q
     refine wp_region_held_drew (S := fun W => Below w2.heap.size w2 W) (by kernel_rfl) (Below.refl w2.heap.size w2).drew (fun hH0 => ?_)
     refine tkB 0 hH0 ?_
     refine tkB 1 hH0 ?_
     refine tkB 2 hH0 ?_
     refine tkB 3 hH0 ?_
     refine tkB 4 hH0 ?_
     refine tkB 5 hH0 ?_
     refine tkB 6 hH0 ?_
     refine tkB 7 hH0 ?_
     refine tkB 8 hH0 ?_
     refine tkB 9 hH0 ?_
     refine wpAnyH_ready (rs := [10]) (by kernel_rfl) (by simp) ?_
     refine rdB (fun K hK => ?_) AllReadyH.nil
     rw [if_pos (by rfl)]
     go_wp2_with (go_at_call 21; refine (HA1.out _ hH0).mono ?_; rintro e w3 ⟨rfl, rfl⟩)
     refine hK.out _ _ hH0 (fun hH1 => ?_)
     clear hK K
     try simp only [Act.put, List.setIfInBounds_toArray, List.set_cons_zero, List.set_cons_succ]
     cases b1 with
     | true =>
      refine tkB 11 hH1 ?_
      refine tkB 12 hH1 ?_
      refine tkB 13 hH1 ?_
      refine tkB 14 hH1 ?_
      refine tkB 15 hH1 ?_
      refine wpAnyH_ready (rs := [16]) (by kernel_rfl) (by simp) ?_
      refine rdB (fun K hK => ?_) AllReadyH.nil
      rw [if_neg (by exact Bool.false_ne_true)]
      refine hK.out _ _ hH1 (fun hH2 => ?_)
      clear hK K
      try simp only [Act.put, List.setIfInBounds_toArray, List.set_cons_zero, List.set_cons_succ]
      refine tkB 17 hH2 ?_
      refine tkB 18 hH2 ?_
      refine tkB 19 hH2 ?_
      refine tkB 20 hH2 ?_
      refine tkB 21 hH2 ?_
      refine tkB 22 hH2 ?_
      refine tkB 23 hH2 ?_
      refine tkB 24 hH2 ?_
      refine tkB 25 hH2 ?_
      refine wpAnyH_ready (rs := [26]) (by kernel_rfl) (by simp) ?_
      refine rdB (fun K hK => ?_) AllReadyH.nil
      rw [if_neg (by exact Bool.false_ne_true)]
      refine hK.out _ _ hH2 (fun hH3 => ?_)
      clear hK K
      try simp only [Act.put, List.setIfInBounds_toArray, List.set_cons_zero, List.set_cons_succ]
      refine tkB 27 hH3 ?_
      refine tkB 28 hH3 ?_
      refine wpAnyH_done (by kernel_rfl) ?_ _
      go_wp2_with fail
      go_meet
      case rel => exact ⟨by rw [← HBV.out, HQ6.out]; rfl, hH3⟩
     | false =>
      refine tkB 11 hH1 ?_
      refine tkB 12 hH1 ?_
      refine tkB 13 hH1 ?_
      refine tkB 14 hH1 ?_
      refine tkB 15 hH1 ?_
      refine wpAnyH_ready (rs := [16]) (by kernel_rfl) (by simp) ?_
      refine rdB (fun K hK => ?_) AllReadyH.nil
      rw [if_pos (by rfl)]
      go_wp2_with (go_at_call 10; refine (HA2.out _).mono ?_; rintro e w3 ⟨rfl, b3⟩; have BB3 := Lib.hid (hH1.trans (b3.mono hH1.size)); clear b3)
      refine hK.out _ _ BB3.out (fun hH2 => ?_)
      clear hK K
      try simp only [Act.put, List.setIfInBounds_toArray, List.set_cons_zero, List.set_cons_succ]
      cases b2 with
      | true =>
       refine tkB 17 hH2 ?_
       refine tkB 18 hH2 ?_
       refine tkB 19 hH2 ?_
       refine tkB 20 hH2 ?_
       refine tkB 21 hH2 ?_
       refine tkB 22 hH2 ?_
       refine tkB 23 hH2 ?_
       refine tkB 24 hH2 ?_
       refine tkB 25 hH2 ?_
       refine wpAnyH_ready (rs := [26]) (by kernel_rfl) (by simp) ?_
       refine rdB (fun K hK => ?_) AllReadyH.nil
       rw [if_neg (by exact Bool.false_ne_true)]
       refine hK.out _ _ hH2 (fun hH3 => ?_)
       clear hK K
       try simp only [Act.put, List.setIfInBounds_toArray, List.set_cons_zero, List.set_cons_succ]
       refine tkB 27 hH3 ?_
       refine tkB 28 hH3 ?_
       refine wpAnyH_done (by kernel_rfl) ?_ _
       go_wp2_with fail
       go_meet
       case rel => exact ⟨by rw [← HBV.out, HQ6.out]; rfl, hH3⟩
      | false =>
       refine tkB 17 hH2 ?_
       refine tkB 18 hH2 ?_
       refine tkB 19 hH2 ?_
       refine tkB 20 hH2 ?_
       refine tkB 21 hH2 ?_
       refine tkB 22 hH2 ?_
       refine tkB 23 hH2 ?_
       refine tkB 24 hH2 ?_
       refine tkB 25 hH2 ?_
       refine wpAnyH_ready (rs := [26]) (by kernel_rfl) (by simp) ?_
       refine rdB (fun K hK => ?_) AllReadyH.nil
       rw [if_pos (by rfl)]
       go_wp2_with (go_at_call 21; refine (HA3.out _ hH2).mono ?_; rintro e w4 ⟨rfl, rfl⟩)
       refine hK.out _ _ hH2 (fun hH3 => ?_)
       clear hK K
       try simp only [Act.put, List.setIfInBounds_toArray, List.set_cons_zero, List.set_cons_succ]
       refine tkB 27 hH3 ?_
       refine tkB 28 hH3 ?_
       refine wpAnyH_done (by kernel_rfl) ?_ _
       go_wp2_with fail
       go_meet
       case rel => exact ⟨by rw [← HBV.out, HQ6.out]; rfl, hH3⟩
    ·have q1 : (k == 6) = false := by simpa using q
     have HQ6 := Lib.hid (decide_eq_false q)
     clear q
     refine wp_region_held_drew (S := fun W => Below w2.heap.size w2 W) (by kernel_rfl) (Below.refl w2.heap.size w2).drew (fun hH0 => ?_)
     refine tkB 0 hH0 ?_
     refine tkB 1 hH0 ?_
     refine tkB 2 hH0 ?_
     refine tkB 3 hH0 ?_
     refine tkB 4 hH0 ?_
     refine tkB 5 hH0 ?_
     refine tkB 6 hH0 ?_
     refine tkB 7 hH0 ?_
     refine tkB 8 hH0 ?_
     refine tkB 9 hH0 ?_
     refine wpAnyH_ready (rs := [10]) (by kernel_rfl) (by simp) ?_
     refine rdB (fun K hK => ?_) AllReadyH.nil
     rw [if_neg (by exact Bool.false_ne_true)]
     refine hK.out _ _ hH0 (fun hH1 => ?_)
     clear hK K
     try simp only [Act.put, List.setIfInBounds_toArray, List.set_cons_zero, List.set_cons_succ]
     refine tkB 11 hH1 ?_
     refine tkB 12 hH1 ?_
     refine tkB 13 hH1 ?_
     refine tkB 14 hH1 ?_
     refine tkB 15 hH1 ?_
     refine wpAnyH_ready (rs := [16]) (by kernel_rfl) (by simp) ?_
     refine rdB (fun K hK => ?_) AllReadyH.nil
     rw [if_neg (by exact Bool.false_ne_true)]
     refine hK.out _ _ hH1 (fun hH2 => ?_)
     clear hK K
     try simp only [Act.put, List.setIfInBounds_toArray, List.set_cons_zero, List.set_cons_succ]
     refine tkB 17 hH2 ?_
     refine tkB 18 hH2 ?_
     refine tkB 19 hH2 ?_
     refine tkB 20 hH2 ?_
     refine tkB 21 hH2 ?_
     refine tkB 22 hH2 ?_
     refine tkB 23 hH2 ?_
     refine tkB 24 hH2 ?_
     refine tkB 25 hH2 ?_
     refine wpAnyH_ready (rs := [26]) (by kernel_rfl) (by simp) ?_
     refine rdB (fun K hK => ?_) AllReadyH.nil
     rw [if_neg (by exact Bool.false_ne_true)]
     refine hK.out _ _ hH2 (fun hH3 => ?_)
     clear hK K
     try simp only [Act.put, List.setIfInBounds_toArray, List.set_cons_zero, List.set_cons_succ]
     refine tkB 27 hH3 ?_
     refine tkB 28 hH3 ?_
     refine wpAnyH_done (by kernel_rfl) ?_ _
     go_wp2_with fail
     go_meet
     case rel => exact ⟨by rw [← HBV.out, HQ6.out]; rfl, hH3⟩
   obtain ⟨rfl, bb⟩ := hcut
   have WO3 := Lib.hid (WO2.out.keep bb)
   have KP3 := Lib.hid (KP2.out.trans (Ko.of_below bb WO2.out.base))
   have BX3 := Lib.hid (BX.out.keep bb)
   have CTM := Lib.hid (show (expSt k sv a (ScM.R x i st)).ct ≤ 1000000000000 by have := (expSt_ext k sv a (ScM.R x i st)).ct; have := R_fit HW.out HY.out HC.out; simp only [ScM.sz] at this; omega)
   clear KB HA1 HA2 HA3 bb WO2 KP2 BX
   cases bv with
   | true =>
    have E1 := Lib.hid (expSt_note (k := k) (a := a) HB1.out HB2.out HB3.out HBV.out)
    go_wp2_with fail
    have KB := Lib.hid (fun (W : World) (e : W.cell? ⟨wr.heap.size, 3, none⟩ = some (.string sv)) => e)
    obtain ⟨⟨x0, x1⟩, y0, y1⟩ := WO3.out.blk.twoF
    obtain ⟨⟨z0, z1, z2, z3, z4, z5, z6⟩, -⟩ := BX3.out.seven
    have AL5 := Lib.hid (((Below.refl wc.heap.size wc).alloc (Nat.le_refl _) (.cells #[.string sv] 9)).drew)
    have WO5 := Lib.hid (WO3.out.keep AL5.out)
    have A1 := keep_al (.cells #[.string sv] 9) x1
    go_cut [46] from 46 to 56 (fun s46 wx => WQ wx B g (expSt k sv a (ScM.R x i st)) ∧ Ko B wr wx)
    case first =>
     refine wp_region_held_drew (S := fun W => W.cell? ⟨wr.heap.size, 3, none⟩ = some (.string sv)) (by kernel_rfl) z3 (fun hH0 => ?_)
     refine tkB 0 hH0 ?_
     refine tkB 1 hH0 ?_
     refine tkB 2 hH0 ?_
     refine tkB 3 hH0 ?_
     refine tkB 5 hH0 ?_
     refine tkB 6 hH0 ?_
     refine wpAnyH_ready (rs := [4, 7]) (by kernel_rfl) (by simp) ?_
     refine rdB (fun K hK => ?_) (rdB (fun K hK => ?_) AllReadyH.nil)
     all_goals rw [if_pos (by rfl)]
     go_wp2_with fail
     refine hK.out _ _ z3 (fun hH1 => ?_)
     clear hK K
     try simp only [Act.put, List.setIfInBounds_toArray, List.set_cons_zero, List.set_cons_succ]
     refine wpAnyH_ready (rs := [7]) (by kernel_rfl) (by simp) ?_
     refine rdB (fun K hK => ?_) AllReadyH.nil
     rw [if_pos (by rfl)]
     rotate_left
     refine hK.out _ _ (keep_al _ z3) (fun hH1 => ?_)
     clear hK K
     try simp only [Act.put, List.setIfInBounds_toArray, List.set_cons_zero, List.set_cons_succ]
     refine wpAnyH_ready (rs := [4]) (by kernel_rfl) (by simp) ?_
     refine rdB (fun K hK => ?_) AllReadyH.nil
     rw [if_pos (by rfl)]
     rotate_left
     go_wp2_with fail
     all_goals
      refine hK.out _ _ (keep_al _ z3) (fun hH2 => ?_)
      clear hK K
      try simp only [Act.put, List.setIfInBounds_toArray, List.set_cons_zero, List.set_cons_succ]
      refine wpAnyH_ready (rs := [8]) (by kernel_rfl) (by simp) ?_
      refine rdB (fun K hK => ?_) AllReadyH.nil
      refine step_append_o rfl (.tmp 50) (.tmp 53) rfl B vo (ScM.R x i st).outer ?_ ?_ wc.heap.size ?_ sv ?_ ?_ ?_ ?_; rfl; exact WO5.out.outer; rfl; exact keep_new wc (.string sv) _; exact Nat.le_trans WO5.out.olen WO5.out.max; exact WO5.out.base; intro v9 w9 own9 g9 hv9; obtain ⟨A9, c9, rfl⟩ := own_shape own9; have OW := Lib.hid own9; have G9 := Lib.hid g9; have V9 := Lib.hid hv9
      have K9 := Lib.hid (Blk.grown WO5.out.blk g9 (own_blk WO5.out.outer WO5.out.blk (by decide)))
      have KX := Lib.hid (Blk.grown (BX3.out.keep AL5.out) g9 (own_blk WO5.out.outer (BX3.out.keep AL5.out) (by decide)))
      clear own9 g9 hv9
      obtain ⟨⟨d0, d1⟩, e0, e1⟩ := K9.out.twoF
      obtain ⟨⟨u0, u1, u2, u3, u4, u5, u6⟩, -⟩ := KX.out.seven
      refine hK.out _ _ u3 (fun hH3 => ?_)
      clear hK K
      try simp only [Act.put, List.setIfInBounds_toArray, List.set_cons_zero, List.set_cons_succ]
      refine tkB 9 hH3 ?_
      refine tkB 10 hH3 ?_
      refine wpAnyH_ready (rs := [11]) (by kernel_rfl) (by simp) ?_
      refine rdB (fun K hK => ?_) AllReadyH.nil
      rw [if_pos (by rfl)]
      go_wp2_with fail
      refine hK.out _ _ (((World.cell?_of_block (Below.heap_setCell _ _ _ wr.heap.size (fun e => absurd WO1.out.blk.lt (by rw [show wr.heap.size = g from e]; exact Nat.lt_irrefl _)))).trans u3)) (fun hH4 => ?_)
      clear hK K
      try simp only [Act.put, List.setIfInBounds_toArray, List.set_cons_zero, List.set_cons_succ]
      refine wpAnyH_done (by kernel_rfl) ?_ _
      go_wp2_with fail
      go_meet
      case rel =>
       have o := (Only.refl (fun b => b = g) w9).setCell (p := ⟨g, 1, none⟩) (.inl rfl) (.slice A9 ((ScM.R x i st).outer.length + 1) c9)
       have r := WO3.out.noted (st' := expSt k sv a (ScM.R x i st)) AL5.out G9.out o OW.out V9.out (blkO1 K9.out _) E1.out.1 E1.out.2.1 E1.out.2.2 CTM.out
       exact ⟨⟨_, _, r.1⟩, KP3.out.trans r.2⟩
    obtain ⟨hz1, hz2⟩ := hcut
    have HWQ := Lib.hid hz1
    have HKO := Lib.hid hz2
    clear hz1 hz2 A1 x0 x1 y0 y1 z0 z1 z2 z3 z4 z5 z6 KB AL5 WO5 E1
    obtain ⟨A5', d5', A6', d6', ⟨t5, t6⟩, sl5, sf5⟩ := Sl.at7e (HX.out.ko (KP.out.trans HKO.out) HP.out) (by rw [HN.out]; exact LT.out) HY.out
    have QE : OE l ∧ ∀ y ∈ f.elems, ∀ ps b, y = .f ps b → OB b := HQ.out _ (List.mem_of_getElem? HY.out)
    have C1 := Lib.hid (QE.1 _ B g _ P _ HWQ.out sl5 HP.out (by have := (expSt_ext k sv a (ScM.R x i st)).ct; have := R_fit HW.out HY.out HC.out; simp only [ScM.sz] at this; omega))
    have QF := Lib.hid QE.2
    have SE := Lib.hid (show ScM.R x (i + 1) st = ScM.runs (ScM.sem f).2 (ScM.runs (ScM.sem l).2 (expSt k sv a (ScM.R x i st))) by rw [ScM.R_succ HY.out]; rfl)
    clear QE sl5 sf5
    go_wp2_with (go_at_call 46; refine C1.out.mono ?_; rintro e w5 ⟨rfl, h5, kp5⟩; have H5 := Lib.hid h5; have K5 := Lib.hid (HKO.out.trans kp5); clear h5 kp5 t5 t6)
    obtain ⟨mf, hmf⟩ : ∃ mf, f.len = mf := ⟨_, rfl⟩
    have HM := Lib.hid hmf
    have fl := X.fit_len f (fit_el x HF.out _ (List.mem_of_getElem? HY.out)).1.2
    rw [hmf] at fl
    have m0 : (0 : Int) ≤ (mf : Int) := by omega
    have m1 : (mf : Int) ≤ 100000 := by omega
    have WE := Lib.hid (ScM.wf_elems HW.out _ (List.mem_of_getElem? HY.out))
    obtain ⟨st2, hst2⟩ : ∃ st2, ScM.runs (ScM.sem l).2 (expSt k sv a (ScM.R x i st)) = st2 := ⟨_, rfl⟩
    have HC2 := Lib.hid (show st2.ct + ScM.sz f ≤ 1000000000000 by rw [← hst2]; have := (expSt_ext k sv a (ScM.R x i st)).ct; have := (ScM.R_calm_all (fun y hy => ScM.sem_ext y (ScM.wf_elems WE.out.2.2.1 y hy)) WE.out.1 (.inl rfl) (expSt k sv a (ScM.R x i st))).ct; have := R_fit HW.out HY.out HC.out; simp only [ScM.sz] at this; omega)
    rw [hst2] at H5 SE
    clear hmf hst2 fl C1
    go_loopw [6] (fun u6 wr2 => ∃ j : Nat, u6 = .int .i64 (j : Int) ∧ j ≤ mf ∧ WQ wr2 B g (ScM.R f j st2) ∧ Ko B wr wr2) (fun u6 _ => (mf : Int).toNat - (intOf u6).toNat)
    case atStart => exact ⟨0, rfl, Nat.zero_le _, H5.out, K5.out⟩
    case round =>
     obtain ⟨j, rfl, hj, hwq, hko⟩ := hrel
     have WQ2 := Lib.hid hwq
     have KO2 := Lib.hid hko
     have j0 : (0 : Int) ≤ (j : Int) := by omega
     have wrj : wrap64 ((j : Int) + 1) = (j : Int) + 1 := by unfold wrap64; omega
     clear hwq hko
     obtain ⟨A7, d7, A8, d8, ⟨t5, t6⟩, sl5, sf5⟩ := Sl.at7e (HX.out.ko (KP.out.trans KO2.out) HP.out) (by rw [HN.out]; exact LT.out) HY.out
     rw [HM.out] at t6
     by_cases hltj : j < mf
     ·obtain ⟨q, y2, b0, b1', rfl, hy2, ⟨cc0, cc1⟩, rd2⟩ := Sl.at2 sf5 (by rw [HM.out]; exact hltj)
      obtain ⟨ps, bd, w0, w1, rfl, he, sn, sb⟩ := Rd.is_f rd2 rfl
      simp only [Array.mk.injEq, List.cons.injEq, and_true] at he
      obtain ⟨rfl, rfl⟩ := he
      obtain ⟨A9, d9, rfl⟩ : ∃ A c, b0 = .slice A ps.length c := by obtain ⟨A, c, e, -⟩ := sn; exact ⟨A, c, e⟩
      obtain ⟨A0, d0, rfl⟩ : ∃ A c, b1' = .slice A bd.len c := by obtain ⟨A, c, e, -⟩ := sb; exact ⟨A, c, e⟩
      have OEN : OE .nil := by
       rcases HNE.out with e | e
       ·have hyy := HY.out
        rw [e] at hyy
        cases hyy
       ·exact e
      have D1 := Lib.hid (QF.out _ (List.mem_of_getElem? hy2) ps bd rfl .nil wr.drew B g _ P P _ _ _ 3 ps OEN trivial trivial WQ2.out.drew (sb.ko ((Ko.refl B wr).drew) HP.out) HP.out (sn.ko ((Ko.refl B wr).drew) HP.out) HP.out (sl_nil _ P 7) (by have := R_fit WE.out.2.2.2 hy2 HC2.out; simp only [ScM.sz] at this ⊢; omega))
      have RS1 := Lib.hid (ScM.R_succ hy2 st2)
      have LTJ := Lib.hid hltj
      have hl2 : (j : Int) < (mf : Int) := by omega
      clear sl5 sf5 rd2 sn sb hy2 hltj hj OEN
      go_wp2_with fail
      go_region_with (refine D1.out.mono ?_; rintro e w7 ⟨rfl, h7, kp7⟩; have H7 := Lib.hid h7; have K7 := Lib.hid (KO2.out.drew.trans kp7); clear h7 kp7)
      all_goals
       go_wp2_with fail
       refine ⟨⟨j + 1, ?_, LTJ.out, by rw [RS1.out]; exact H7.out, K7.out⟩, ?_⟩
       ·first | rfl | exact congrArg (Value.int .i64) (wrj.trans (by omega))
       ·have := LTJ.out; simp only [intOf]; omega
     ·have hl2 : ¬ (j : Int) < (mf : Int) := by omega
      have RE2 := Lib.hid (ScM.R_end (x := f) (i := j) (by rw [HM.out]; omega) st2)
      clear hltj hj sl5 sf5
      go_wp2_with fail
      have kk := WQ2.out
      rw [RE2.out, ← SE.out] at kk
      refine ⟨⟨i + 1, _, ?_, rfl, LT.out, kk, KP.out.trans KO2.out⟩, ?_⟩
      ·first | rfl | exact congrArg (Value.int .i64) (by omega)
      ·have := LT.out; simp only [intOf]; omega
   | false =>
    have E1 := Lib.hid (expSt_same (k := k) (a := a) HB1.out HB2.out HB3.out HBV.out)
    have HWQ := Lib.hid (show WQ wc B g (expSt k sv a (ScM.R x i st)) from ⟨_, _, WO3.out.conv E1.out.1 E1.out.2 (expSt_ext k sv a (ScM.R x i st)).lo CTM.out⟩)
    have HKO := Lib.hid KP3.out
    obtain ⟨A5', d5', A6', d6', ⟨t5, t6⟩, sl5, sf5⟩ := Sl.at7e (HX.out.ko (KP.out.trans HKO.out) HP.out) (by rw [HN.out]; exact LT.out) HY.out
    have QE : OE l ∧ ∀ y ∈ f.elems, ∀ ps b, y = .f ps b → OB b := HQ.out _ (List.mem_of_getElem? HY.out)
    have C1 := Lib.hid (QE.1 _ B g _ P _ HWQ.out sl5 HP.out (by have := (expSt_ext k sv a (ScM.R x i st)).ct; have := R_fit HW.out HY.out HC.out; simp only [ScM.sz] at this; omega))
    have QF := Lib.hid QE.2
    have SE := Lib.hid (show ScM.R x (i + 1) st = ScM.runs (ScM.sem f).2 (ScM.runs (ScM.sem l).2 (expSt k sv a (ScM.R x i st))) by rw [ScM.R_succ HY.out]; rfl)
    clear QE sl5 sf5
    go_wp2_with (go_at_call 46; refine C1.out.mono ?_; rintro e w5 ⟨rfl, h5, kp5⟩; have H5 := Lib.hid h5; have K5 := Lib.hid (HKO.out.trans kp5); clear h5 kp5 t5 t6)
    obtain ⟨mf, hmf⟩ : ∃ mf, f.len = mf := ⟨_, rfl⟩
    have HM := Lib.hid hmf
    have fl := X.fit_len f (fit_el x HF.out _ (List.mem_of_getElem? HY.out)).1.2
    rw [hmf] at fl
    have m0 : (0 : Int) ≤ (mf : Int) := by omega
    have m1 : (mf : Int) ≤ 100000 := by omega
    have WE := Lib.hid (ScM.wf_elems HW.out _ (List.mem_of_getElem? HY.out))
    obtain ⟨st2, hst2⟩ : ∃ st2, ScM.runs (ScM.sem l).2 (expSt k sv a (ScM.R x i st)) = st2 := ⟨_, rfl⟩
    have HC2 := Lib.hid (show st2.ct + ScM.sz f ≤ 1000000000000 by rw [← hst2]; have := (expSt_ext k sv a (ScM.R x i st)).ct; have := (ScM.R_calm_all (fun y hy => ScM.sem_ext y (ScM.wf_elems WE.out.2.2.1 y hy)) WE.out.1 (.inl rfl) (expSt k sv a (ScM.R x i st))).ct; have := R_fit HW.out HY.out HC.out; simp only [ScM.sz] at this; omega)
    rw [hst2] at H5 SE
    clear hmf hst2 fl C1
    go_loopw [6] (fun u6 wr2 => ∃ j : Nat, u6 = .int .i64 (j : Int) ∧ j ≤ mf ∧ WQ wr2 B g (ScM.R f j st2) ∧ Ko B wr wr2) (fun u6 _ => (mf : Int).toNat - (intOf u6).toNat)
    case atStart => exact ⟨0, rfl, Nat.zero_le _, H5.out, K5.out⟩
    case round =>
     obtain ⟨j, rfl, hj, hwq, hko⟩ := hrel
     have WQ2 := Lib.hid hwq
     have KO2 := Lib.hid hko
     have j0 : (0 : Int) ≤ (j : Int) := by omega
     have wrj : wrap64 ((j : Int) + 1) = (j : Int) + 1 := by unfold wrap64; omega
     clear hwq hko
     obtain ⟨A7, d7, A8, d8, ⟨t5, t6⟩, sl5, sf5⟩ := Sl.at7e (HX.out.ko (KP.out.trans KO2.out) HP.out) (by rw [HN.out]; exact LT.out) HY.out
     rw [HM.out] at t6
     by_cases hltj : j < mf
     ·obtain ⟨q, y2, b0, b1', rfl, hy2, ⟨cc0, cc1⟩, rd2⟩ := Sl.at2 sf5 (by rw [HM.out]; exact hltj)
      obtain ⟨ps, bd, w0, w1, rfl, he, sn, sb⟩ := Rd.is_f rd2 rfl
      simp only [Array.mk.injEq, List.cons.injEq, and_true] at he
      obtain ⟨rfl, rfl⟩ := he
      obtain ⟨A9, d9, rfl⟩ : ∃ A c, b0 = .slice A ps.length c := by obtain ⟨A, c, e, -⟩ := sn; exact ⟨A, c, e⟩
      obtain ⟨A0, d0, rfl⟩ : ∃ A c, b1' = .slice A bd.len c := by obtain ⟨A, c, e, -⟩ := sb; exact ⟨A, c, e⟩
      have OEN : OE .nil := by
       rcases HNE.out with e | e
       ·have hyy := HY.out
        rw [e] at hyy
        cases hyy
       ·exact e
      have D1 := Lib.hid (QF.out _ (List.mem_of_getElem? hy2) ps bd rfl .nil wr.drew B g _ P P _ _ _ 3 ps OEN trivial trivial WQ2.out.drew (sb.ko ((Ko.refl B wr).drew) HP.out) HP.out (sn.ko ((Ko.refl B wr).drew) HP.out) HP.out (sl_nil _ P 7) (by have := R_fit WE.out.2.2.2 hy2 HC2.out; simp only [ScM.sz] at this ⊢; omega))
      have RS1 := Lib.hid (ScM.R_succ hy2 st2)
      have LTJ := Lib.hid hltj
      have hl2 : (j : Int) < (mf : Int) := by omega
      clear sl5 sf5 rd2 sn sb hy2 hltj hj OEN
      go_wp2_with fail
      go_region_with (refine D1.out.mono ?_; rintro e w7 ⟨rfl, h7, kp7⟩; have H7 := Lib.hid h7; have K7 := Lib.hid (KO2.out.drew.trans kp7); clear h7 kp7)
      all_goals
       go_wp2_with fail
       refine ⟨⟨j + 1, ?_, LTJ.out, by rw [RS1.out]; exact H7.out, K7.out⟩, ?_⟩
       ·first | rfl | exact congrArg (Value.int .i64) (wrj.trans (by omega))
       ·have := LTJ.out; simp only [intOf]; omega
     ·have hl2 : ¬ (j : Int) < (mf : Int) := by omega
      have RE2 := Lib.hid (ScM.R_end (x := f) (i := j) (by rw [HM.out]; omega) st2)
      clear hltj hj sl5 sf5
      go_wp2_with fail
      have kk := WQ2.out
      rw [RE2.out, ← SE.out] at kk
      refine ⟨⟨i + 1, _, ?_, rfl, LT.out, kk, KP.out.trans KO2.out⟩, ?_⟩
      ·first | rfl | exact congrArg (Value.int .i64) (by omega)
      ·have := LT.out; simp only [intOf]; omega
  ·have hl1 : ¬ (i : Int) < (n : Int) := by omega
   have RE1 := Lib.hid (ScM.R_end (x := x) (i := i) (by rw [HN.out]; omega) st)
   clear hlt hi
   go_wp2_with fail
   go_end0
   have k := WO1.out
   rw [RE1.out] at k
   exact ⟨rfl, ⟨_, _, k⟩, KP.out⟩
end Go.Proofs.Yteakhlnnepjhpaa
