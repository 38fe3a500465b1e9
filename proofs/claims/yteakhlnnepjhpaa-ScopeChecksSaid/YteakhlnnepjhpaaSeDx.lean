/- The document's own Check: parts (printed by gensed.py). -/
import Derived.Test.YteakhlnnepjhpaaSeAx
import Derived.Test.YteakhlnnepjhpaaTkLx
import Derived.Deep.RegionHeld3
import Derived.Deep.CutRange
import Derived.BigRegion
import Derived.BigQuiet
namespace Go.Proofs.Yteakhlnnepjhpaa
open Go.RowKit PrM
set_option linter.unusedVariables false
set_option linter.unusedSimpArgs false
theorem cell_new1 (w : World) (u : Value) (t : TypeId) : (w.alloc (.cells #[u] t)).cell? ⟨w.heap.size, 0, none⟩ = some u := by
 have k := Blk.new w #[u] t
 have k : (w.alloc (.cells #[u] t)).heap[w.heap.size]? = _ := k
 unfold World.cell?
 rw [k]
 rfl
theorem cb4 {w W : World} {a : Addr} {u : Value} (h : w.cell? a = some u) (b : Below w.heap.size w W) : W.cell? a = some u := (World.cell?_of_block (b.block _ (World.block_lt_of_cell? _ _ h))).trans h
section
variable {w w' : World} {B g : Nat} {vn vw vl : Value} {os ls : List Int} {lo : Int} {st st' : ScM.Sc} {P : Nat → Prop}
/-- One function more: what both rows are behind both appends. -/
theorem VO.push {W1 W2 W3 W4 : World} {v1 v2 : Value} (h : VO w B g vn vw vl os ls lo st) (b1 : Below w.heap.size w W1) (g1 : W1.grownBy W2 vw.ownBlock) (k1 : W2.ownsRow B 3 1 v1 (os.length + 1 + 1) (IL (os ++ [(st.own : Int)]) ++ [.int .i64 0])) (hv1 : v1.ownBlock = vw.ownBlock ∨ v1.ownBlock = some W1.heap.size)
  (b2 : Below W2.heap.size W2 W3) (g2 : W3.grownBy W4 vl.ownBlock) (k2 : W4.ownsRow B 3 1 v2 (ls.length + 1 + 1) (IL (ls ++ [lo]) ++ [.int .i64 0])) (hv2 : v2.ownBlock = vl.ownBlock ∨ v2.ownBlock = some W3.heap.size) (hm : st.ct + 1 ≤ 1000000000000) :
  VO ((W4.setCell ⟨g, 1, none⟩ v1).setCell ⟨g, 2, none⟩ v2) B g vn v1 v2 (os ++ [(st.own : Int)]) (ls ++ [lo]) 0 (ScM.enter 3 st) ∧ Kv B w ((W4.setCell ⟨g, 1, none⟩ v1).setCell ⟨g, 2, none⟩ v2) := by
 have z1 := b1.size
 have z2 := g1.size
 have z3 := b2.size
 have z4 := g2.size
 have na := h.na
 have t2 : ∀ q, q < w.heap.size → vw.ownBlock ≠ some q → W3.heap[q]? = w.heap[q]? := fun q l m => (b2.block q (by omega)).trans ((g1.block q (by omega) (fun e => m e.symm)).trans (b1.block q l))
 have t4 : ∀ q, q < w.heap.size → vw.ownBlock ≠ some q → vl.ownBlock ≠ some q → W4.heap[q]? = w.heap[q]? := fun q l m n => (g2.block q (by omega) (fun e => n e.symm)).trans (t2 q l m)
 have bg : Blk W4 g #[vn, vw, vl, .int .i64 st.err, .int .i64 st.at_] 66 := (t4 g h.blk.lt na.2.1 na.2.2).trans h.blk
 have l1 := own_lt h.own
 have l2 := own_lt h.loops
 have e1 : ∀ q, v1.ownBlock = some q → vl.ownBlock ≠ some q := fun q e x => by
  rcases hv1 with k | k
  ·rw [k] at e; exact h.apart q e x
  ·rw [k] at e
   have := Option.some.inj e
   have := (l2 q x).2
   omega
 have kn : W4.ownsRow B 9 1 vn st.names.length (st.names.map .string) := own_same h.names fun q e => t4 q (own_lt h.names q e).2 (own_own h.names h.own (by decide) e) (own_own h.names h.loops (by decide) e)
 have kw : W4.ownsRow B 3 1 v1 (os.length + 1 + 1) (IL (os ++ [(st.own : Int)]) ++ [.int .i64 0]) := own_same k1 fun q e => (g2.block q (by have := (own_lt k1 q e).2; omega) (fun x => e1 q e x.symm)).trans (b2.block q (own_lt k1 q e).2)
 have ap : ∀ q, v1.ownBlock = some q → v2.ownBlock ≠ some q := fun q e x => by
  rcases hv2 with k | k
  ·rw [k] at x; exact e1 q e x
  ·rw [k] at x
   have := Option.some.inj x
   have := (own_lt k1 q e).2
   omega
 have il : ∀ (l : List Int) (x : Int), IL (l ++ [x]) ++ [.int .i64 0] = IL ((l ++ [x]) ++ [0]) := fun l x => by unfold IL; simp
 have len : ∀ (l : List Int) (x : Int), (l ++ [x]).length = l.length + 1 := fun l x => by simp
 have na4 : v1.ownBlock ≠ some g ∧ v2.ownBlock ≠ some g := ⟨own_blk kw bg (by decide), own_blk k2 bg (by decide)⟩
 have o := ((Only.refl (fun q => q = g) W4).setCell (p := ⟨g, 1, none⟩) (.inl rfl) v1).setCell (p := ⟨g, 2, none⟩) (.inl rfl) v2
 have b5 := (blkS (blkS bg v1).2.1 v2).2.2.1
 have oA : Only (Fv5 g vn vw vl) w ((W4.setCell ⟨g, 1, none⟩ v1).setCell ⟨g, 2, none⟩ v2) :=
  ((((Only.of_below b1).trans (only_grown g1 (F := Fv5 g vn vw vl) (fun q e => .inr (.inr (.inl e)))) (fun n f => .inl f)).trans (Only.of_below (F := Fv5 g vn vw vl) b2) (fun n f => .inl f)).trans (only_grown g2 (F := Fv5 g vn vw vl) (fun q e => .inr (.inr (.inr e)))) (fun n f => .inl f)).trans o (fun n e => .inl (.inl e))
 refine ⟨⟨b5, own_same kn fun q e => o.block q (own_lt kn q e).2 fun x => own_blk kn bg (by decide) (x ▸ e), ?_, ?_, ap, h.hg, Nat.le_succ_of_le h.nlen, Nat.zero_le _, ?_, ?_, (by decide), Int.natCast_nonneg _, hm⟩, h.kv oA⟩
 ·show World.ownsRow _ B 3 1 v1 ((os ++ [(st.own : Int)]).length + 1) (IL ((os ++ [(st.own : Int)]) ++ [0]))
  rw [len, ← il]
  exact own_same kw fun q e => o.block q (own_lt kw q e).2 fun x => na4.1 (x ▸ e)
 ·rw [len, ← il]
  exact own_same k2 fun q e => o.block q (own_lt k2 q e).2 fun x => na4.2 (x ▸ e)
 ·rw [len]; exact Nat.succ_le_succ h.d1
 ·rw [len]; exact Nat.succ_le_succ h.d2
theorem VO.at2 {W1 W2 : World} (h : VO w B g vn vw vl os ls lo st) (b1 : Below w.heap.size w W1) (g1 : W1.grownBy W2 vw.ownBlock) : W2.ownsRow B 3 1 vl (ls.length + 1) (IL (ls ++ [lo])) ∧ Blk W2 g #[vn, vw, vl, .int .i64 st.err, .int .i64 st.at_] 66 ∧ B ≤ W2.heap.size := by
 have k := h.keep b1
 exact ⟨own_same k.loops fun q e => g1.block q (own_lt k.loops q e).2 fun x => h.apart q x.symm e, k.blk.grown g1 k.na.2.1, Nat.le_trans k.base g1.size⟩
/-- One function less. -/
theorem VO.pop {pw cw nw pl cl nl : Nat} {lx : Int} {st0 : ScM.Sc} (h : VO w B g vn (.slice (some ⟨pw, 0, none⟩) nw cw) (.slice (some ⟨pl, 0, none⟩) nl cl) (os ++ [(st0.own : Int)]) (ls ++ [lo]) lx st) (hw : nw = os.length + 1 + 1) (hl : nl = ls.length + 1 + 1)
  (e1 : st'.names = st.names) (e2 : st'.own = st0.own) (e3 : st'.err = st.err) (e4 : st'.at_ = st.at_) (e5 : st.ct = st'.ct) (e6 : st0.own ≤ st'.ct) (e7 : -1 ≤ lo) (e8 : lo ≤ st'.ct) :
  VO ((w.setCell ⟨g, 1, none⟩ (.slice (some ⟨pw, 0, none⟩) (os.length + 1) cw)).setCell ⟨g, 2, none⟩ (.slice (some ⟨pl, 0, none⟩) (ls.length + 1) cl)) B g vn (.slice (some ⟨pw, 0, none⟩) (os.length + 1) cw) (.slice (some ⟨pl, 0, none⟩) (ls.length + 1) cl) os ls lo st' ∧
  Kv B w ((w.setCell ⟨g, 1, none⟩ (.slice (some ⟨pw, 0, none⟩) (os.length + 1) cw)).setCell ⟨g, 2, none⟩ (.slice (some ⟨pl, 0, none⟩) (ls.length + 1) cl)) := by
 have len : ∀ (l : List Int) (x : Int), (l ++ [x]).length = l.length + 1 := fun l x => by simp
 have il : ∀ (l : List Int) (x : Int), IL (l ++ [x]) = IL l ++ [.int .i64 x] := fun l x => by unfold IL; rw [List.map_append]; rfl
 have ilen : ∀ l : List Int, (IL l).length = l.length := il_len
 have hw' := h.own
 have hl' := h.loops
 rw [len, il] at hw' hl'
 subst hw hl
 have kw := own_frontG hw' (fun e => nomatch e)
 have kl := own_frontG hl' (fun e => nomatch e)
 rw [ilen, len] at kw kl
 have d1 := h.d1
 have d2 := h.d2
 rw [len] at d1 d2
 have o := ((Only.refl (fun q => q = g) w).setCell (p := ⟨g, 1, none⟩) (.inl rfl) (.slice (some ⟨pw, 0, none⟩) (os.length + 1) cw)).setCell (p := ⟨g, 2, none⟩) (.inl rfl) (.slice (some ⟨pl, 0, none⟩) (ls.length + 1) cl)
 have b5 := (blkS (blkS h.blk (.slice (some ⟨pw, 0, none⟩) (os.length + 1) cw)).2.1 (.slice (some ⟨pl, 0, none⟩) (ls.length + 1) cl)).2.2.1
 exact h.setG (st' := st') o (by rw [e3, e4]; exact b5) (by rw [e1]; exact h.names) (by rw [e2]; exact kw) kl h.apart (by rw [e1, ← e5]; exact h.nlen) (by rw [e2]; exact e6) (by rw [← e5]; omega) (by rw [← e5]; omega) e7 e8 (by rw [← e5]; exact h.max)
end

def BOX (k a m op : Int) (sv : ByteArray) (v5 v6 : Value) : Array Value := #[.int .i64 k, .int .i64 a, .int .i64 m, .string sv, .int .i64 op, v5, v6]
set_option maxRecDepth 20000 in
set_option maxHeartbeats 8000000 in
/-- parts. -/
theorem v_parts {l f : X} (hE : VE l) (wl : ScM.wf l) (rl : ScM.row 7 l) (wf : ScM.wf f) (ff : f.fit 100000) (oen : VE .nil) (H : ∀ y ∈ f.elems, ∀ ps b, y = .f ps b → VB b) : VPt l f := by
 intro w B g os ls lo st P k a m op sv v5 v6 h sl sf hP hc
 obtain ⟨A5, d5, rfl⟩ := slice_of sl
 obtain ⟨A6, d6, rfl⟩ := slice_of sf
 obtain ⟨n, hn⟩ : ∃ n, f.len = n := ⟨_, rfl⟩
 have bel := (Below.refl w.heap.size w).alloc (Nat.le_refl _) (.cells #[.int .i64 k, .int .i64 a, .int .i64 m, .string sv, .int .i64 op, .slice A5 l.len d5, .slice A6 f.len d6] 39)
 have BX := Blk.new w #[.int .i64 k, .int .i64 a, .int .i64 m, .string sv, .int .i64 op, .slice A5 l.len d5, .slice A6 f.len d6] 39
 have KA := Kv.of_below bel h.base
 have C1 := hE _ B g os ls lo st P _ (h.keep bel) (sl.kv KA hP) hP (by omega)
 obtain ⟨xb, hxb⟩ : ∃ xb, w.heap.size = xb := ⟨_, rfl⟩
 obtain ⟨wx, hwx⟩ : ∃ wx, w.alloc (.cells #[.int .i64 k, .int .i64 a, .int .i64 m, .string sv, .int .i64 op, .slice A5 l.len d5, .slice A6 f.len d6] 39) = wx := ⟨_, rfl⟩
 rw [hwx] at KA C1 BX
 rw [hxb] at BX
 have C1 := Lib.hid C1
 have KA := Lib.hid KA
 have BXK := Lib.hid (fun (W : World) (q : Kv B wx W) => q.blk _ _ _ BX (by decide) (by decide) (by decide))
 have SFK := Lib.hid (fun (W : World) (q : Kv B wx W) => sf.kv (KA.out.trans q) hP)
 obtain ⟨⟨z0, z1, z2, z3, z4, z5, z6⟩, -⟩ := BX.seven
 have HX := Lib.hid hwx
 have HXB := Lib.hid hxb
 have HN := Lib.hid hn
 have HP := Lib.hid hP
 have WF := Lib.hid wf
 have HQ := Lib.hid H
 have OEN := Lib.hid oen
 have fl := X.fit_len f ff
 rw [hn] at fl
 have n0 : (0 : Int) ≤ (n : Int) := by omega
 have n1 : (n : Int) ≤ 100000 := by omega
 have EL := Lib.hid (ScM.R_calm_all (fun y hy => ScM.sem_ext y (ScM.wf_elems wl y hy)) rl (.inl rfl) st)
 obtain ⟨st2, hst2⟩ : ∃ s, ScM.runs (ScM.sem l).2 st = s := ⟨_, rfl⟩
 rw [hst2] at C1 EL
 have HC2 := Lib.hid (show st2.ct + ScM.sz f ≤ 1000000000000 by have := EL.out.ct; omega)
 rw [hst2]
 clear h sl sf hP hc bel hn wf ff fl hE wl rl oen H BX hst2
 go_enter Try.func56, Try.ntmps56
 go_wp2_with (go_at_call 45; refine C1.out.mono ?_; rintro e w5 ⟨rfl, h5, kp5⟩; have H5 := Lib.hid h5; have K5 := Lib.hid kp5; clear h5 kp5 z0 z1 z2 z3 z4 z5 z6; obtain ⟨⟨z0, z1, z2, z3, z4, z5, z6⟩, -⟩ := (BXK.out _ K5.out).seven; rw [HN.out] at z6)
 go_loopw [4] (fun u4 wr => ∃ j : Nat, u4 = .int .i64 (j : Int) ∧ j ≤ n ∧ VQ wr B g os ls lo (ScM.R f j st2) ∧ Kv B wx wr) (fun u4 _ => (n : Int).toNat - (intOf u4).toNat)
 case atStart => exact ⟨0, rfl, Nat.zero_le _, H5.out, K5.out⟩
 case round =>
  obtain ⟨j, rfl, hj, hwq, hko⟩ := hrel
  have KO4 := Lib.hid hko
  have WQ4 := Lib.hid hwq
  have j0 : (0 : Int) ≤ (j : Int) := by omega
  have wrj : wrap64 ((j : Int) + 1) = (j : Int) + 1 := by unfold wrap64; omega
  clear hwq hko z0 z1 z2 z3 z4 z5 z6
  obtain ⟨⟨z0, z1, z2, z3, z4, z5, z6⟩, -⟩ := (BXK.out _ KO4.out).seven
  rw [HN.out] at z6
  by_cases hltj : j < n
  ·obtain ⟨wo, hwo⟩ : ∃ wo, wo = wr := ⟨_, rfl⟩
   subst hwo
   obtain ⟨ps, bd, hy⟩ : ∃ ps bd, f.elems[j]? = some (.f ps bd) := by
    obtain ⟨q, y2, b0, b1, e, hy2, -, rd2⟩ := Sl.at2 (SFK.out _ KO4.out) (by rw [HN.out]; exact hltj)
    obtain ⟨ps, bd, z0, z1, rfl, he, -⟩ := Rd.is_f rd2 rfl
    exact ⟨ps, bd, hy2⟩
   have HY := Lib.hid hy
   have FT := Lib.hid (show (ScM.R f j st2).ct + (1 + ps.length + ScM.sz bd) ≤ 1000000000000 from R_fit WF.out hy HC2.out)
   have WB := Lib.hid (ScM.wf_elems WF.out _ (List.mem_of_getElem? hy))
   have SE := Lib.hid (show ScM.R f (j + 1) st2 = ScM.scope 3 ps (ScM.runs (ScM.sem bd).2) (ScM.R f j st2) by rw [ScM.R_succ hy]; rfl)
   have VBB := Lib.hid (HQ.out _ (List.mem_of_getElem? hy) ps bd rfl)
   obtain ⟨s0, hs0⟩ : ∃ s, ScM.R f j st2 = s := ⟨_, rfl⟩
   rw [hs0] at WQ4 FT SE
   have LTJ := Lib.hid hltj
   have hl2 : (j : Int) < (n : Int) := by omega
   clear hy hs0 hltj hj
   obtain ⟨vn, vw, vl, h4⟩ := WQ4.out
   have H4 := Lib.hid h4
   obtain ⟨pw, cw, rfl, hcw, -, -⟩ := ir_shape h4.own
   obtain ⟨pl, cl, rfl, hcl, -, -⟩ := ir_shape h4.loops
   obtain ⟨⟨c0, c1, c2, c3, c4⟩, f0, f1, f2, f3, f4⟩ := h4.blk.five
   have DB1 := Lib.hid (show os.length + 1 ≤ 1000000000000 by have := h4.d1; have := h4.max; have := FT.out; omega)
   have DB2 := Lib.hid (show ls.length + 1 ≤ 1000000000000 by have := h4.d2; have := h4.max; have := FT.out; omega)
   have HM := Lib.hid (show s0.ct + 1 ≤ 1000000000000 by have := FT.out; omega)
   clear h4 hcw hcl
   go_upto_region 5 with fail
   go_cut [16] from 16 to 33 (fun s16 wq => VQ wq B g (os ++ [(s0.own : Int)]) (ls ++ [lo]) 0 (ScM.enter 3 s0) ∧ Kv B wo wq)
   case first =>
    refine wp_region_L (Till 16 (fun W => W.cell? ⟨g, 1, none⟩ = some (.slice (some ⟨pw, 0, none⟩) (os.length + 1) cw)) 19 (fun W => W.cell? ⟨g, 2, none⟩ = some (.slice (some ⟨pl, 0, none⟩) (ls.length + 1) cl))) (by kernel_rfl) ?_
    refine tkL 0 [] (fun L w h => Till.unset (by decide) (by decide) L w h) (Till.all c1 c2) ?_
    refine tkL 1 [] (fun L w h => Till.unset (by decide) (by decide) L w h) (Till.all c1 c2) ?_
    refine tkL 2 [] (fun L w h => Till.unset (by decide) (by decide) L w h) (Till.all c1 c2) ?_
    refine tkL 3 [] (fun L w h => Till.unset (by decide) (by decide) L w h) (Till.all c1 c2) ?_
    refine tkL 4 [] (fun L w h => Till.unset (by decide) (by decide) L w h) (Till.all c1 c2) ?_
    have KL := Lib.hid (fun (W : World) (L : Array Bool) (h : Till 16 (fun W => W.cell? ⟨g, 1, none⟩ = some (.slice (some ⟨pw, 0, none⟩) (os.length + 1) cw)) 19 (fun W => W.cell? ⟨g, 2, none⟩ = some (.slice (some ⟨pl, 0, none⟩) (ls.length + 1) cl)) L W) (e : ∀ d ∈ [7, 16], L.getD d true = false) => h.1 (e 16 (by simp)))
    refine tkL 5 [7, 16] (fun L w h => Till.unset (by decide) (by decide) L w h) (Till.all c1 c2) ?_
    clear KL
    refine tkL 8 [] (fun L w h => Till.unset (by decide) (by decide) L w h) (Till.all c1 c2) ?_
    refine tkL 9 [] (fun L w h => Till.unset (by decide) (by decide) L w h) (Till.all c1 c2) ?_
    refine tkL 10 [] (fun L w h => Till.unset (by decide) (by decide) L w h) (Till.all c1 c2) ?_
    have KL := Lib.hid (fun (W : World) (L : Array Bool) (h : Till 16 (fun W => W.cell? ⟨g, 1, none⟩ = some (.slice (some ⟨pw, 0, none⟩) (os.length + 1) cw)) 19 (fun W => W.cell? ⟨g, 2, none⟩ = some (.slice (some ⟨pl, 0, none⟩) (ls.length + 1) cl)) L W) (e : ∀ d ∈ [13, 19], L.getD d true = false) => h.2 (e 19 (by simp)))
    refine tkL 11 [13, 19] (fun L w h => Till.unset (by decide) (by decide) L w h) (Till.all c1 c2) ?_
    clear KL
    refine anyL_ready (rs := [6, 12]) (by kernel_rfl) (by simp) ?_
    refine rdL (fun K hK => ?_) (rdL (fun K hK => ?_) AllL.nil)
    ·rw [if_pos (by rfl)]
     go_wp2_with fail
     have B1 := ((Below.refl wo.heap.size wo).alloc (Nat.le_refl _) (.cells #[.int .i64 0] 3)).drew
     have C1 := (cell_new1 wo (.int .i64 0) 3)
     obtain ⟨wa, hwa⟩ : ∃ W, (wo.alloc (.cells #[.int .i64 0] 3)).drew = W := ⟨_, rfl⟩
     have C1 : (wo.alloc (.cells #[.int .i64 0] 3)).drew.cell? ⟨wo.heap.size, 0, none⟩ = some (.int .i64 0) := C1
     rw [hwa] at B1 C1 ⊢
     have B1 := Lib.hid B1
     have S1 := Lib.hid C1
     have K1 := Lib.hid (H4.out.keep B1.out).blk
     clear C1 hwa c0 c1 c2 c3 c4 f0 f1 f2 f3 f4
     obtain ⟨⟨c0, c1, c2, c3, c4⟩, f0, f1, f2, f3, f4⟩ := K1.out.five
     refine hK.out _ _ (Till.all c1 c2) ?_
     clear hK K
     try simp only [Act.put, List.setIfInBounds_toArray, List.set_cons_zero, List.set_cons_succ]
     refine anyL_ready (rs := [7, 12]) (by kernel_rfl) (by simp) ?_
     refine rdL (fun K hK => ?_) (rdL (fun K hK => ?_) AllL.nil)
     ·refine step_append_int1 rfl (.tmp 21) (.tmp 22) rfl B (.slice (some ⟨pw, 0, none⟩) (os.length + 1) cw) (os.length + 1) (IL (os ++ [(s0.own : Int)])) wo.heap.size 0 rfl rfl (H4.out.keep B1.out).own S1.out DB1.out (H4.out.keep B1.out).base ?_
      intro v1 w2 k1 g1 hv1
      obtain ⟨A8, c8, rfl⟩ := own_shape k1
      have A2 := H4.out.at2 B1.out g1
      have OWN1 := Lib.hid k1
      have G1 := Lib.hid g1
      have HV1 := Lib.hid hv1
      have LP2 := Lib.hid A2.1
      have K1 := Lib.hid A2.2.1
      have BS2 := Lib.hid A2.2.2
      clear A2 k1 g1 hv1 c0 c1 c2 c3 c4 f0 f1 f2 f3 f4
      obtain ⟨⟨c0, c1, c2, c3, c4⟩, f0, f1, f2, f3, f4⟩ := K1.out.five
      refine hK.out _ _ (Till.all c1 c2) ?_
      clear hK K
      try simp only [Act.put, List.setIfInBounds_toArray, List.set_cons_zero, List.set_cons_succ]
      refine anyL_ready (rs := [12]) (by kernel_rfl) (by simp) ?_
      refine rdL (fun K hK => ?_) AllL.nil
      rw [if_pos (by rfl)]
      go_wp2_with fail
      have BB := (Below.refl w2.heap.size w2).alloc (Nat.le_refl _) (.cells #[.int .i64 0] 3)
      have C1 := cell_new1 w2 (.int .i64 0) 3
      obtain ⟨w3, hwa⟩ : ∃ W, w2.alloc (.cells #[.int .i64 0] 3) = W := ⟨_, rfl⟩
      rw [hwa] at BB C1 ⊢
      have S2 := Lib.hid C1
      have K1 := Lib.hid (K1.out.keep BB)
      have BB2 := Lib.hid BB
      clear C1 hwa BB c0 c1 c2 c3 c4 f0 f1 f2 f3 f4
      obtain ⟨⟨c0, c1, c2, c3, c4⟩, f0, f1, f2, f3, f4⟩ := K1.out.five
      refine hK.out _ _ (Till.all c1 c2) ?_
      clear hK K
      try simp only [Act.put, List.setIfInBounds_toArray, List.set_cons_zero, List.set_cons_succ]
      refine anyL_ready (rs := [13]) (by kernel_rfl) (by simp) ?_
      refine rdL (fun K hK => ?_) AllL.nil
      refine step_append_int1 rfl (.tmp 27) (.tmp 28) rfl B (.slice (some ⟨pl, 0, none⟩) (ls.length + 1) cl) (ls.length + 1) (IL (ls ++ [lo])) w2.heap.size 0 rfl rfl (own_same LP2.out fun q e => BB2.out.block q (own_lt LP2.out q e).2) S2.out DB2.out (Nat.le_trans BS2.out BB2.out.size) ?_
      intro v2 w4 k2 g2 hv2
      obtain ⟨A7, c7, rfl⟩ := own_shape k2
      have R4 := Lib.hid (H4.out.push B1.out G1.out OWN1.out HV1.out BB2.out g2 k2 hv2 HM.out)
      have K4 := Lib.hid (K1.out.grown g2 (fun e => H4.out.na.2.2 e))
      clear k2 g2 hv2 c0 c1 c2 c3 c4 f0 f1 f2 f3 f4
      obtain ⟨⟨c0, c1, c2, c3, c4⟩, f0, f1, f2, f3, f4⟩ := K4.out.five
      refine hK.out _ _ (Till.all c1 c2) ?_
      clear hK K
      try simp only [Act.put, List.setIfInBounds_toArray, List.set_cons_zero, List.set_cons_succ]
      refine tkL 14 [] (fun L w h => Till.unset (by decide) (by decide) L w h) (Till.all c1 c2) ?_
      refine tkL 15 [] (fun L w h => Till.unset (by decide) (by decide) L w h) (Till.all c1 c2) ?_
      refine anyL_ready (rs := [16]) (by kernel_rfl) (by simp) ?_
      refine rdL (fun K hK => ?_) AllL.nil
      rw [if_pos (by rfl)]
      go_wp2_with fail
      have K5 := Lib.hid (blkS K4.out (.slice A8 (os.length + 1 + 1) c8)).2.1
      clear c0 c1 c2 c3 c4 f0 f1 f2 f3 f4
      obtain ⟨⟨c0, c1, c2, c3, c4⟩, f0, f1, f2, f3, f4⟩ := K5.out.five
      refine hK.out _ _ ⟨fun e => (by cases e), fun _ => c2⟩ ?_
      clear hK K
      try simp only [Act.put, List.setIfInBounds_toArray, List.set_cons_zero, List.set_cons_succ]
      refine tkL 17 [] (fun L w h => Till.unset (by decide) (by decide) L w h) ⟨fun e => (by cases e), fun _ => c2⟩ ?_
      refine tkL 18 [] (fun L w h => Till.unset (by decide) (by decide) L w h) ⟨fun e => (by cases e), fun _ => c2⟩ ?_
      refine anyL_ready (rs := [19]) (by kernel_rfl) (by simp) ?_
      refine rdL (fun K hK => ?_) AllL.nil
      rw [if_pos (by rfl)]
      go_wp2_with fail
      refine hK.out _ _ ⟨fun e => (by cases e), fun e => (by cases e)⟩ ?_
      clear hK K
      try simp only [Act.put, List.setIfInBounds_toArray, List.set_cons_zero, List.set_cons_succ]
      refine anyL_done (by kernel_rfl) ?_ _
      go_wp2_with fail
      go_meet
      case rel => exact ⟨⟨_, _, _, R4.out.1⟩, R4.out.2⟩
     ·rw [if_pos (by rfl)]
      go_wp2_with fail
      have BB := (Below.refl wa.heap.size wa).alloc (Nat.le_refl _) (.cells #[.int .i64 0] 3)
      have C1 := cell_new1 wa (.int .i64 0) 3
      obtain ⟨wb, hwa⟩ : ∃ W, wa.alloc (.cells #[.int .i64 0] 3) = W := ⟨_, rfl⟩
      rw [hwa] at BB C1 ⊢
      have S2 := Lib.hid C1
      have B2 := Lib.hid (B1.out.trans (BB.mono B1.out.size))
      have K1 := Lib.hid (K1.out.keep BB)
      have LB := Lib.hid B1.out.size
      have B3 := Lib.hid BB
      clear C1 hwa BB c0 c1 c2 c3 c4 f0 f1 f2 f3 f4
      obtain ⟨⟨c0, c1, c2, c3, c4⟩, f0, f1, f2, f3, f4⟩ := K1.out.five
      refine hK.out _ _ (Till.all c1 c2) ?_
      clear hK K
      try simp only [Act.put, List.setIfInBounds_toArray, List.set_cons_zero, List.set_cons_succ]
      refine anyL_ready (rs := [7]) (by kernel_rfl) (by simp) ?_
      refine rdL (fun K hK => ?_) AllL.nil
      refine step_append_int1 rfl (.tmp 21) (.tmp 22) rfl B (.slice (some ⟨pw, 0, none⟩) (os.length + 1) cw) (os.length + 1) (IL (os ++ [(s0.own : Int)])) wo.heap.size 0 rfl rfl (H4.out.keep B2.out).own (Lib.hid (cb4 S1.out B3.out)).out DB1.out (H4.out.keep B2.out).base ?_
      intro v1 w2 k1 g1 hv1
      obtain ⟨A8, c8, rfl⟩ := own_shape k1
      have A2 := H4.out.at2 B2.out g1
      have S2 := Lib.hid ((World.cell?_of_block (g1.block _ (World.block_lt_of_cell? _ _ S2.out) (fun e => absurd (own_lt H4.out.own _ e.symm).2 (Nat.not_lt.2 LB.out)))).trans S2.out)
      have OWN1 := Lib.hid k1
      have G1 := Lib.hid g1
      have HV1 := Lib.hid hv1
      have LP2 := Lib.hid A2.1
      have K1 := Lib.hid A2.2.1
      have BS2 := Lib.hid A2.2.2
      clear A2 k1 g1 hv1 c0 c1 c2 c3 c4 f0 f1 f2 f3 f4
      obtain ⟨⟨c0, c1, c2, c3, c4⟩, f0, f1, f2, f3, f4⟩ := K1.out.five
      refine hK.out _ _ (Till.all c1 c2) ?_
      clear hK K
      try simp only [Act.put, List.setIfInBounds_toArray, List.set_cons_zero, List.set_cons_succ]
      refine anyL_ready (rs := [13]) (by kernel_rfl) (by simp) ?_
      refine rdL (fun K hK => ?_) AllL.nil
      refine step_append_int1 rfl (.tmp 27) (.tmp 28) rfl B (.slice (some ⟨pl, 0, none⟩) (ls.length + 1) cl) (ls.length + 1) (IL (ls ++ [lo])) wa.heap.size 0 rfl rfl LP2.out S2.out DB2.out BS2.out ?_
      intro v2 w4 k2 g2 hv2
      obtain ⟨A7, c7, rfl⟩ := own_shape k2
      have R4 := Lib.hid (H4.out.push B2.out G1.out OWN1.out HV1.out (Below.refl _ _) g2 k2 hv2 HM.out)
      have K4 := Lib.hid (K1.out.grown g2 (fun e => H4.out.na.2.2 e))
      clear k2 g2 hv2 c0 c1 c2 c3 c4 f0 f1 f2 f3 f4
      obtain ⟨⟨c0, c1, c2, c3, c4⟩, f0, f1, f2, f3, f4⟩ := K4.out.five
      refine hK.out _ _ (Till.all c1 c2) ?_
      clear hK K
      try simp only [Act.put, List.setIfInBounds_toArray, List.set_cons_zero, List.set_cons_succ]
      refine tkL 14 [] (fun L w h => Till.unset (by decide) (by decide) L w h) (Till.all c1 c2) ?_
      refine tkL 15 [] (fun L w h => Till.unset (by decide) (by decide) L w h) (Till.all c1 c2) ?_
      refine anyL_ready (rs := [16]) (by kernel_rfl) (by simp) ?_
      refine rdL (fun K hK => ?_) AllL.nil
      rw [if_pos (by rfl)]
      go_wp2_with fail
      have K5 := Lib.hid (blkS K4.out (.slice A8 (os.length + 1 + 1) c8)).2.1
      clear c0 c1 c2 c3 c4 f0 f1 f2 f3 f4
      obtain ⟨⟨c0, c1, c2, c3, c4⟩, f0, f1, f2, f3, f4⟩ := K5.out.five
      refine hK.out _ _ ⟨fun e => (by cases e), fun _ => c2⟩ ?_
      clear hK K
      try simp only [Act.put, List.setIfInBounds_toArray, List.set_cons_zero, List.set_cons_succ]
      refine tkL 17 [] (fun L w h => Till.unset (by decide) (by decide) L w h) ⟨fun e => (by cases e), fun _ => c2⟩ ?_
      refine tkL 18 [] (fun L w h => Till.unset (by decide) (by decide) L w h) ⟨fun e => (by cases e), fun _ => c2⟩ ?_
      refine anyL_ready (rs := [19]) (by kernel_rfl) (by simp) ?_
      refine rdL (fun K hK => ?_) AllL.nil
      rw [if_pos (by rfl)]
      go_wp2_with fail
      refine hK.out _ _ ⟨fun e => (by cases e), fun e => (by cases e)⟩ ?_
      clear hK K
      try simp only [Act.put, List.setIfInBounds_toArray, List.set_cons_zero, List.set_cons_succ]
      refine anyL_done (by kernel_rfl) ?_ _
      go_wp2_with fail
      go_meet
      case rel => exact ⟨⟨_, _, _, R4.out.1⟩, R4.out.2⟩
    ·rw [if_pos (by rfl)]
     go_wp2_with fail
     have B1 := ((Below.refl wo.heap.size wo).alloc (Nat.le_refl _) (.cells #[.int .i64 0] 3)).drew
     have C1 := (cell_new1 wo (.int .i64 0) 3)
     obtain ⟨wa, hwa⟩ : ∃ W, (wo.alloc (.cells #[.int .i64 0] 3)).drew = W := ⟨_, rfl⟩
     have C1 : (wo.alloc (.cells #[.int .i64 0] 3)).drew.cell? ⟨wo.heap.size, 0, none⟩ = some (.int .i64 0) := C1
     rw [hwa] at B1 C1 ⊢
     have B1 := Lib.hid B1
     have S2 := Lib.hid C1
     have K1 := Lib.hid (H4.out.keep B1.out).blk
     clear C1 hwa c0 c1 c2 c3 c4 f0 f1 f2 f3 f4
     obtain ⟨⟨c0, c1, c2, c3, c4⟩, f0, f1, f2, f3, f4⟩ := K1.out.five
     refine hK.out _ _ (Till.all c1 c2) ?_
     clear hK K
     try simp only [Act.put, List.setIfInBounds_toArray, List.set_cons_zero, List.set_cons_succ]
     refine anyL_ready (rs := [6]) (by kernel_rfl) (by simp) ?_
     refine rdL (fun K hK => ?_) AllL.nil
     rw [if_pos (by rfl)]
     go_wp2_with fail
     have BB := (Below.refl wa.heap.size wa).alloc (Nat.le_refl _) (.cells #[.int .i64 0] 3)
     have C1 := cell_new1 wa (.int .i64 0) 3
     obtain ⟨wb, hwa⟩ : ∃ W, wa.alloc (.cells #[.int .i64 0] 3) = W := ⟨_, rfl⟩
     rw [hwa] at BB C1 ⊢
     have S1 := Lib.hid C1
     have B2 := Lib.hid (B1.out.trans (BB.mono B1.out.size))
     have K1 := Lib.hid (K1.out.keep BB)
     have LB := Lib.hid B1.out.size
     have S2 := Lib.hid (cb4 S2.out BB)
     clear C1 hwa BB c0 c1 c2 c3 c4 f0 f1 f2 f3 f4
     obtain ⟨⟨c0, c1, c2, c3, c4⟩, f0, f1, f2, f3, f4⟩ := K1.out.five
     refine hK.out _ _ (Till.all c1 c2) ?_
     clear hK K
     try simp only [Act.put, List.setIfInBounds_toArray, List.set_cons_zero, List.set_cons_succ]
     refine anyL_ready (rs := [7]) (by kernel_rfl) (by simp) ?_
     refine rdL (fun K hK => ?_) AllL.nil
     refine step_append_int1 rfl (.tmp 21) (.tmp 22) rfl B (.slice (some ⟨pw, 0, none⟩) (os.length + 1) cw) (os.length + 1) (IL (os ++ [(s0.own : Int)])) wa.heap.size 0 rfl rfl (H4.out.keep B2.out).own S1.out DB1.out (H4.out.keep B2.out).base ?_
     intro v1 w2 k1 g1 hv1
     obtain ⟨A8, c8, rfl⟩ := own_shape k1
     have A2 := H4.out.at2 B2.out g1
     have S2 := Lib.hid ((World.cell?_of_block (g1.block _ (World.block_lt_of_cell? _ _ S2.out) (fun e => absurd (own_lt H4.out.own _ e.symm).2 (Nat.lt_irrefl _)))).trans S2.out)
     have OWN1 := Lib.hid k1
     have G1 := Lib.hid g1
     have HV1 := Lib.hid hv1
     have LP2 := Lib.hid A2.1
     have K1 := Lib.hid A2.2.1
     have BS2 := Lib.hid A2.2.2
     clear A2 k1 g1 hv1 c0 c1 c2 c3 c4 f0 f1 f2 f3 f4
     obtain ⟨⟨c0, c1, c2, c3, c4⟩, f0, f1, f2, f3, f4⟩ := K1.out.five
     refine hK.out _ _ (Till.all c1 c2) ?_
     clear hK K
     try simp only [Act.put, List.setIfInBounds_toArray, List.set_cons_zero, List.set_cons_succ]
     refine anyL_ready (rs := [13]) (by kernel_rfl) (by simp) ?_
     refine rdL (fun K hK => ?_) AllL.nil
     refine step_append_int1 rfl (.tmp 27) (.tmp 28) rfl B (.slice (some ⟨pl, 0, none⟩) (ls.length + 1) cl) (ls.length + 1) (IL (ls ++ [lo])) wo.heap.size 0 rfl rfl LP2.out S2.out DB2.out BS2.out ?_
     intro v2 w4 k2 g2 hv2
     obtain ⟨A7, c7, rfl⟩ := own_shape k2
     have R4 := Lib.hid (H4.out.push B2.out G1.out OWN1.out HV1.out (Below.refl _ _) g2 k2 hv2 HM.out)
     have K4 := Lib.hid (K1.out.grown g2 (fun e => H4.out.na.2.2 e))
     clear k2 g2 hv2 c0 c1 c2 c3 c4 f0 f1 f2 f3 f4
     obtain ⟨⟨c0, c1, c2, c3, c4⟩, f0, f1, f2, f3, f4⟩ := K4.out.five
     refine hK.out _ _ (Till.all c1 c2) ?_
     clear hK K
     try simp only [Act.put, List.setIfInBounds_toArray, List.set_cons_zero, List.set_cons_succ]
     refine tkL 14 [] (fun L w h => Till.unset (by decide) (by decide) L w h) (Till.all c1 c2) ?_
     refine tkL 15 [] (fun L w h => Till.unset (by decide) (by decide) L w h) (Till.all c1 c2) ?_
     refine anyL_ready (rs := [16]) (by kernel_rfl) (by simp) ?_
     refine rdL (fun K hK => ?_) AllL.nil
     rw [if_pos (by rfl)]
     go_wp2_with fail
     have K5 := Lib.hid (blkS K4.out (.slice A8 (os.length + 1 + 1) c8)).2.1
     clear c0 c1 c2 c3 c4 f0 f1 f2 f3 f4
     obtain ⟨⟨c0, c1, c2, c3, c4⟩, f0, f1, f2, f3, f4⟩ := K5.out.five
     refine hK.out _ _ ⟨fun e => (by cases e), fun _ => c2⟩ ?_
     clear hK K
     try simp only [Act.put, List.setIfInBounds_toArray, List.set_cons_zero, List.set_cons_succ]
     refine tkL 17 [] (fun L w h => Till.unset (by decide) (by decide) L w h) ⟨fun e => (by cases e), fun _ => c2⟩ ?_
     refine tkL 18 [] (fun L w h => Till.unset (by decide) (by decide) L w h) ⟨fun e => (by cases e), fun _ => c2⟩ ?_
     refine anyL_ready (rs := [19]) (by kernel_rfl) (by simp) ?_
     refine rdL (fun K hK => ?_) AllL.nil
     rw [if_pos (by rfl)]
     go_wp2_with fail
     refine hK.out _ _ ⟨fun e => (by cases e), fun e => (by cases e)⟩ ?_
     clear hK K
     try simp only [Act.put, List.setIfInBounds_toArray, List.set_cons_zero, List.set_cons_succ]
     refine anyL_done (by kernel_rfl) ?_ _
     go_wp2_with fail
     go_meet
     case rel => exact ⟨⟨_, _, _, R4.out.1⟩, R4.out.2⟩
   obtain ⟨hz1, hz2⟩ := hcut
   have Q5 := Lib.hid hz1
   have K6 := Lib.hid (KO4.out.trans hz2)
   clear hz1 hz2 z0 z1 z2 z3 z4 z5 z6 c0 c1 c2 c3 c4 f0 f1 f2 f3 f4
   obtain ⟨⟨z0, z1, z2, z3, z4, z5, z6⟩, -⟩ := (BXK.out _ K6.out).seven
   rw [HN.out] at z6
   obtain ⟨q, y2, b0, b1, rfl, hy2, ⟨cc0, cc1⟩, rd2⟩ := Sl.at2 (SFK.out _ K6.out) (by rw [HN.out]; exact LTJ.out)
   obtain rfl := Option.some.inj (hy2.symm.trans HY.out)
   obtain ⟨ps', bd', u0, u1, e2, he, sn, sb⟩ := Rd.is_f rd2 rfl
   injection e2 with i1 i2
   subst i1 i2
   simp only [Array.mk.injEq, List.cons.injEq, and_true] at he
   obtain ⟨rfl, rfl⟩ := he
   obtain ⟨A9, d9, rfl⟩ := strs_slice sn
   obtain ⟨A0, d0, rfl⟩ := slice_of sb
   have D1 := Lib.hid (VBB.out .nil wc.drew B g _ _ 0 (ScM.enter 3 s0) P P _ _ (.slice none 0 0) ps rfl OEN.out trivial trivial Q5.out.drew (sb.kv ((Kv.refl B wc).drew) HP.out) HP.out (sn.kv ((Kv.refl B wc).drew) HP.out) HP.out (sl_nil _ P 7) (by have := FT.out; show s0.ct + 1 + (_ + _ + 0) ≤ _; omega))
   have CTB := Lib.hid (blkR_ct (ps := ps) (t := .nil) WB.out.2 trivial (ScM.enter 3 s0))
   have len1 : ∀ (l : List Int) (x : Int), (l ++ [x]).length = l.length + 1 := fun l x => by simp
   clear rd2 sn sb hy2
   go_wp2_with fail
   go_region_with (refine D1.out.mono ?_; rintro e w7 ⟨rfl, ⟨vn7, vw7, vl7, h7⟩, kp7⟩; obtain ⟨pw7, cw7, ew, hcw7, -⟩ := ir_shape h7.own; obtain ⟨pl7, cl7, el, hcl7, -⟩ := ir_shape h7.loops; rw [len1] at ew hcw7 el hcl7; subst ew el; have H7 := Lib.hid h7; have K7 := Lib.hid (K6.out.drew.trans kp7); clear h7 kp7)
   all_goals
    have i1 : ((os.length + 1 + 1 : Nat) : Int) - 1 = ((os.length + 1 : Nat) : Int) := by omega
    have i2 : ((ls.length + 1 + 1 : Nat) : Int) - 1 = ((ls.length + 1 : Nat) : Int) := by omega
    have i3 : (0 : Int) ≤ ((os.length + 1 : Nat) : Int) := by omega
    have i4 : (0 : Int) ≤ ((ls.length + 1 : Nat) : Int) := by omega
    have i5 : ((os.length + 1 : Nat) : Int) ≤ (cw7 : Int) := by omega
    have i6 : ((ls.length + 1 : Nat) : Int) ≤ (cl7 : Int) := by omega
    have i7 : ((os.length + 1 : Nat) : Int) ≤ 1000000000001 := by have := DB1.out; omega
    have i8 : ((ls.length + 1 : Nat) : Int) ≤ 1000000000001 := by have := DB2.out; omega
    have r := H7.out.pop (st0 := s0) (st' := ScM.scope 3 ps (ScM.runs (ScM.sem bd).2) s0) rfl rfl rfl rfl rfl rfl rfl (by have := CTB.out.2; have := H4.out.ow; show s0.own ≤ (blkR ps .nil bd (ScM.enter 3 s0)).ct; have e : (ScM.enter 3 s0).ct = s0.ct + 1 := rfl; omega) H4.out.l0 (by have := CTB.out.2; have := H4.out.l1; show lo ≤ ((blkR ps .nil bd (ScM.enter 3 s0)).ct : Int); have e : (ScM.enter 3 s0).ct = s0.ct + 1 := rfl; omega)
    have R7 := Lib.hid r
    obtain ⟨⟨c0, c1, c2, c3, c4⟩, f0, f1, f2, f3, f4⟩ := H7.out.blk.five
    clear hcw7 hcl7 r z0 z1 z2 z3 z4 z5 z6 cc0 cc1
    go_wp2_with fail
    go_region
    all_goals
     go_wp2_with fail
     refine ⟨⟨j + 1, ?_, LTJ.out, by rw [SE.out]; exact ⟨_, _, _, R7.out.1.drew⟩, K7.out.trans R7.out.2.drew⟩, ?_⟩
     ·first | rfl | exact congrArg (Value.int .i64) (wrj.trans (by omega))
     ·have := LTJ.out; simp only [intOf]; omega
  ·have hl2 : ¬ (j : Int) < (n : Int) := by omega
   have RE2 := Lib.hid (ScM.R_end (x := f) (i := j) (by rw [HN.out]; omega) st2)
   clear hltj hj
   go_wp2_with fail
   go_end0
   have k := WQ4.out
   rw [RE2.out] at k
   exact ⟨rfl, k, KA.out.trans KO4.out⟩
end Go.Proofs.Yteakhlnnepjhpaa
