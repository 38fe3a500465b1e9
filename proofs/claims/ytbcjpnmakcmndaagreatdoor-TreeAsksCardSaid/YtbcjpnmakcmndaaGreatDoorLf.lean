/- Texts of one proof behind one another: TdB, TdW. -/
import Derived.Test.YtbcjpnmakcmndaaGreatDoorLe
import Derived.Test.YtbcjpnmakcmndaaGreatDoorKw
import Derived.Test.YtbcjpnmakcmndaaGreatDoorKo
import Derived.Test.YtbcjpnmakcmndaaGreatDoorKx
import Derived.Deep.RegionLaw
import Derived.Test.YtbcjpnmakcmndaaGreatDoorLa
import Derived.Test.YtbcjpnmakcmndaaGreatDoorKt
/- The document's own answer: Bare (printed by gentdb.py). -/
namespace Go.Proofs.YtbcjpnmakcmndaaGreatDoor
open Go.RowKit PrM
set_option linter.unusedVariables false
set_option linter.unusedSimpArgs false
/-- Blocks of the source, or later ones. -/
def PB (P : Nat → Prop) (w : World) : Nat → Prop := fun k => P k ∨ w.heap.size ≤ k
def BaR (l : X) (z : Nat) (P : Nat → Prop) (w : World) (e : Ending) (w' : World) : Prop := ∃ u, e = .returned u ∧ Sl l.bare.len (Rd w' (PB P w) l.bare).row z u ∧ Below w.heap.size w w'
def RBarE (l : X) : Prop := ∀ (w : World) (P : Nat → Prop) (v : Value), Sl l.len (Rd w P l).row 7 v → Calls Tryz.prog 31 #[v] w (BaR l 7 P w)
def RBarS (l : X) : Prop := ∀ (w : World) (P : Nat → Prop) (v : Value), Sl l.len (Rd w P l).row 5 v → Calls Tryz.prog 14 #[v] w (BaR l 5 P w)
def BarQ (x : X) : Prop := x.fit 100000 → match x with
 | .e _ _ _ _ _ l f => RBarE l ∧ ∀ y ∈ f.elems, ∀ ps b, y = .f ps b → RBarS b
 | .f _ b => RBarS b
 | .s _ _ _ l b => RBarE l ∧ ∀ y ∈ b.elems, ∀ m, y = .blk m → RBarS m
 | .blk m => RBarS m
 | _ => True
theorem takeB_bare {w : World} {P : Nat → Prop} {x : X} {z : Nat} {v : Value} (h : Sl x.len (Rd w P x).row z v) : takeB x x.len = x.bare := by
 obtain ⟨A, c, -, -, -, hr⟩ := h
 exact takeB_all x z A 0 hr
/-- append of one function as a step of a drawn region. -/
theorem step_append_fun {w : World} {ops : Array Oper} {o : Oper} {a : Act} {K : Act → World → Prop} {Q : Exit → Act → World → Prop} {E : Prop} (hgd : o.guard = none) (s x : Operand)
  (ho : o.op = .call { callee := .builtin .append, args := #[s, x], argTypes := #[39, 39] })
  (base : Nat) (v : Value) (n : Nat) (ys : List Value) (hs : a.eval s = v) (hown : w.ownsRow base 94 2 v n ys)
  (b : Nat) (hx : a.eval x = .slice (some ⟨b, 0, none⟩) 1 1) (v0 v1 : Value) (hu : Blk w b #[v0, v1] 94) (h1 : ∀ u ∈ (#[v0, v1] : Array Value).toList, u.oneCell' = true) (hlen : n ≤ 300000) (hb : base ≤ w.heap.size)
  (h : ∀ v' w', w'.ownsRow base 94 2 v' (n + 1) (ys ++ [v0, v1]) → w.grownBy w' v.ownBlock → (v'.ownBlock = v.ownBlock ∨ v'.ownBlock = some w.heap.size) → K (a.put o.dst v') w') :
  if Region.wanted o (yielded ops a.tmps) = true then Oper.wp Tryz.prog o a w K Q else E := by
 have hw : Region.wanted o (yielded ops a.tmps) = true := by simp [Region.wanted, hgd]
 rw [if_pos hw]
 obtain ⟨i, hi, hz, k1, k2⟩ := info_parts infoF2
 obtain ⟨v', w', hrun, h2, h3, _, h5⟩ := run_append_own_at (P := Tryz.prog) w base 39 o.type 94 i _ 2 48 Tryz.underlying39 hi hz k1 k2 rfl (by decide) v n ys hown ⟨b, 0, none⟩ 1 1 [v0, v1] rfl (fun j y hj => by
  have e : (⟨b, 0, none⟩ : Addr).add j = ⟨b, j, none⟩ := by unfold Addr.add; split <;> simp_all
  rw [e]
  have h5 : w.heap[b]? = _ := hu
  simp only [World.cell?, h5]
  simpa using hj) (by simpa using h1) (by unfold maxLen; omega) (by omega) hb
 unfold Oper.wp
 simp [execOp, ho, resolve, invoke, builtin, hs, hx, hrun, Result.andThen]
 exact h v' w' h2 h3 h5
/-- What one's own row of elements that were made goes on as, when one more is appended. -/
theorem grow_below {w0 w8 w9 : World} {B : Nat} {v : Value} {o : Obj} (b : Below B w0 w8) (hB : B ≤ w8.heap.size) (g : (w8.alloc o).grownBy w9 v.ownBlock) (hv : ∀ k, v.ownBlock = some k → B ≤ k) : Below B w0 w9 :=
 (b.alloc hB o).grown g (Nat.le_trans hB (Nat.le_of_lt (al_lt w8 o))) hv
set_option maxRecDepth 20000 in
set_option maxHeartbeats 8000000 in
theorem rbar_e (w : World) (P : Nat → Prop) (x : X) (A : Option Addr) (n c : Nat) (h : Sl x.len (Rd w P x).row 7 (.slice A n c)) (hP : ∀ k, P k → k < w.heap.size) (hb : x.fit 100000) (H : ∀ y ∈ x.elems, BarQ y) : Calls Tryz.prog 31 #[.slice A n c] w (BaR x 7 P w) := by
 have HX := Lib.hid h
 have HQ := Lib.hid (fun y hy => H y hy (fit_elems x hb y hy))
 have HFE := Lib.hid (fit_elems x hb)
 have HN := Lib.hid (Sl.len h).1
 have HP := Lib.hid hP
 have HTK := Lib.hid (takeB_bare h)
 have hn := X.fit_len x hb
 rw [← HN.out] at hn
 have n0 : (0 : Int) ≤ (n : Int) := by omega
 have n1 : (n : Int) ≤ 100000 := by omega
 clear h H hb hP
 go_enter Tryz.func31, Tryz.ntmps31
 go_wp2_with fail
 go_loopw [3, 4, 5, 6] (fun u3 u4 u5 u6 wr => ∃ (i : Nat) (vo : Value) (ys : List Value) (q5 q6 : Value), u3 = vo ∧ u4 = .int .i64 (i : Int) ∧ u5 = q5 ∧ u6 = q6 ∧ i ≤ n ∧ OwnX 41 7 w.heap.size (PB P w) wr vo (takeB x i) ys ∧ Below w.heap.size w wr) (fun _ u4 _ _ _ => (n : Int).toNat - (intOf u4).toNat)
 case atStart => exact ⟨0, _, [], undef, undef, rfl, rfl, rfl, rfl, Nat.zero_le _, by rw [takeB_zero]; exact OwnX.nil, Below.refl _ _⟩
 case round =>
  obtain ⟨i, vo, ys, q5, q6, rfl, rfl, rfl, rfl, hi, row, hbl⟩ := hrel
  generalize wr = wo at *
  obtain ⟨L, hL⟩ : ∃ L, takeB x i = L := ⟨_, rfl⟩
  rw [hL] at row
  have hLl : L.len = i := by rw [← hL]; exact takeB_len x i (by rw [elems_len, ← HN.out]; exact hi)
  obtain ⟨Ao, co, rfl, -⟩ := sl_shape2 (row.reads (fun k hk => Or.inr hk))
  have RO := Lib.hid row
  have HB := Lib.hid hbl
  have HL2 := Lib.hid hL
  have HLL := Lib.hid hLl
  have i0 : (0 : Int) ≤ (i : Int) := by omega
  have wri : wrap64 ((i : Int) + 1) = (i : Int) + 1 := by unfold wrap64; omega
  clear row hbl hL hLl
  by_cases hlt : i < n
  ·obtain ⟨p, y, v0, v1, v2, v3, v4, v5, v6, rfl, hy, ⟨c0, c1, c2, c3, c4, c5, c6⟩, rd⟩ := Sl.at7 HX.out (by rw [← HN.out]; exact hlt)
   obtain ⟨k, ac, nn, sv, op, l, f, v5', v6', rfl, hv, sl, sf⟩ := Rd.is_e rd rfl
   simp only [Array.mk.injEq, List.cons.injEq, and_true] at hv
   obtain ⟨rfl, rfl, rfl, rfl, rfl, rfl, rfl⟩ := hv
   obtain ⟨A5, d5, rfl⟩ := sl_slice sl
   obtain ⟨A6, mf, d6, rfl, hmf⟩ := sl_slice2 sf
   have CF := Lib.hid c6
   replace c0 := cell_in HB.out c0
   replace c1 := cell_in HB.out c1
   replace c2 := cell_in HB.out c2
   replace c3 := cell_in HB.out c3
   replace c4 := cell_in HB.out c4
   replace c5 := cell_in HB.out c5
   replace c6 := cell_in HB.out c6
   have QY := HQ.out _ (List.mem_of_getElem? hy)
   have FA := HFE.out _ (List.mem_of_getElem? hy)
   have CL := Lib.hid (fun W (b : Below w.heap.size w W) => QY.1 W P _ (Sl.bel b sl))
   have Q2 := Lib.hid QY.2
   unfold BaR at CL
   have FM := Lib.hid (show mf ≤ 100000 by rw [hmf]; exact X.fit_len f FA.1.2)
   have SF := Lib.hid sf
   have HMF := Lib.hid hmf
   have HTB := Lib.hid (takeB_bare sf)
   have HY := Lib.hid hy
   have HLT := Lib.hid hlt
   have RD := Lib.hid rd
   have hl1 : (i : Int) < (n : Int) := by omega
   have WO := Lib.hid HB.out.size
   clear QY FA sl sf hmf hy hlt hi rd
   go_wp2_with (first
    |(refine wpList_store_row rfl 41 (.tmp 5) (.tmp 16) rfl wo.heap.size #[.int .i64 k, .int .i64 ac, .int .i64 nn, .string sv, .int .i64 op, .slice A5 l.len d5, .slice A6 mf d6] rfl rfl 41 _ (Blk.new wo Z7 41) sizeE rfl (onesN (Rd.one_cells _ _ RD.out)) ?_; obtain ⟨w2, hw, bb, K2, ss⟩ := boxT wo #[.int .i64 k, .int .i64 ac, .int .i64 nn, .string sv, .int .i64 op, .slice A5 l.len d5, .slice A6 mf d6] Z7 41; rw [← hw]; clear hw; have BO := Lib.hid (show Below wo.heap.size wo (w2.setCell ⟨wo.heap.size, 1, none⟩ (.int .i64 0)) from bb.out.setCell (Nat.le_refl _) _); have K3 := Lib.hid (show Blk (w2.setCell ⟨wo.heap.size, 1, none⟩ (.int .i64 0)) wo.heap.size #[.int .i64 k, .int .i64 0, .int .i64 nn, .string sv, .int .i64 op, .slice A5 l.len d5, .slice A6 mf d6] 41 from blk_cell K2.out 1 (.int .i64 0)); have SS := Lib.hid (show wo.heap.size < (w2.setCell ⟨wo.heap.size, 1, none⟩ (.int .i64 0)).heap.size by rw [World.size_setCell]; exact ss.out); obtain ⟨⟨x0, x1, x2, x3, x4, x5, x6⟩, g0, g1, g2, g3, g4, g5, g6⟩ := K2.out.seven; clear bb ss)
    |(refine wp_store_row 41 (.tmp 5) (.tmp 16) rfl wo.heap.size #[.int .i64 k, .int .i64 ac, .int .i64 nn, .string sv, .int .i64 op, .slice A5 l.len d5, .slice A6 mf d6] rfl rfl 41 _ (Blk.new wo Z7 41) sizeE rfl (onesN (Rd.one_cells _ _ RD.out)) ?_; obtain ⟨w2, hw, bb, K2, ss⟩ := boxT wo #[.int .i64 k, .int .i64 ac, .int .i64 nn, .string sv, .int .i64 op, .slice A5 l.len d5, .slice A6 mf d6] Z7 41; rw [← hw]; clear hw; have BO := Lib.hid (show Below wo.heap.size wo (w2.setCell ⟨wo.heap.size, 1, none⟩ (.int .i64 0)) from bb.out.setCell (Nat.le_refl _) _); have K3 := Lib.hid (show Blk (w2.setCell ⟨wo.heap.size, 1, none⟩ (.int .i64 0)) wo.heap.size #[.int .i64 k, .int .i64 0, .int .i64 nn, .string sv, .int .i64 op, .slice A5 l.len d5, .slice A6 mf d6] 41 from blk_cell K2.out 1 (.int .i64 0)); have SS := Lib.hid (show wo.heap.size < (w2.setCell ⟨wo.heap.size, 1, none⟩ (.int .i64 0)).heap.size by rw [World.size_setCell]; exact ss.out); obtain ⟨⟨x0, x1, x2, x3, x4, x5, x6⟩, g0, g1, g2, g3, g4, g5, g6⟩ := K2.out.seven; clear bb ss)
    |(go_at_call 31; (with_reducible refine (CL.out _ (HB.out.trans (BO.out.mono WO.out))).mono ?_); rintro en w5 ⟨v5, rfl, s5, b5⟩; obtain ⟨A7, d7, rfl⟩ := sl_slice s5; have K5 := Lib.hid (K3.out.below b5 K3.out.lt); have BO5 := Lib.hid (BO.out.trans (b5.mono BO.out.size)); have S5 := Lib.hid (s5.imp (Rd.move (Q := fun k => P k ∨ wo.heap.size < k) (Moves.of_below (Below.refl _ _) (fun k hk _ => hk.imp id (fun h => Nat.lt_of_lt_of_le SS.out h))) l.bare).2.1); have S5L := Lib.hid (Nat.lt_of_lt_of_le SS.out b5.size); clear s5 b5; obtain ⟨⟨x0, x1, x2, x3, x4, x5, x6⟩, g0, g1, g2, g3, g4, g5, g6⟩ := K5.out.seven))
   have O56 := Lib.hid (((Only.refl (fun b => b = wo.heap.size) w5).setCell (p := ⟨wo.heap.size, 5, none⟩) (.inl rfl) (.slice A7 l.bare.len d7)).setCell (p := ⟨wo.heap.size, 6, none⟩) (.inl rfl) (.slice none 0 0))
   have K6 := Lib.hid (show Blk ((w5.setCell ⟨wo.heap.size, 5, none⟩ (.slice A7 l.bare.len d7)).setCell ⟨wo.heap.size, 6, none⟩ (.slice none 0 0)) wo.heap.size #[.int .i64 k, .int .i64 0, .int .i64 nn, .string sv, .int .i64 op, .slice A7 l.bare.len d7, .slice none 0 0] 41 from blk_cell (show Blk (w5.setCell ⟨wo.heap.size, 5, none⟩ (.slice A7 l.bare.len d7)) wo.heap.size #[.int .i64 k, .int .i64 0, .int .i64 nn, .string sv, .int .i64 op, .slice A7 l.bare.len d7, .slice A6 mf d6] 41 from blk_cell K5.out 5 _) 6 _)
   generalize ((w5.setCell ⟨wo.heap.size, 5, none⟩ (.slice A7 l.bare.len d7)).setCell ⟨wo.heap.size, 6, none⟩ (.slice none 0 0)) = w6 at *
   have BO6 := Lib.hid (BO5.out.trans (O56.out.below (B := wo.heap.size) (fun n e => Nat.le_of_eq e.symm) BO5.out.size))
   have S6 := Lib.hid (S5.out.imp (Rd.move (Moves.of_only O56.out (fun k hk _ e => by subst e; rcases hk with h | h; exact absurd (HP.out _ h) (by have := WO.out; omega); omega) (fun _ hk _ => hk)) l.bare).2.1)
   have S6L := Lib.hid (Nat.lt_of_lt_of_le S5L.out O56.out.size)
   have BW6 := Lib.hid (HB.out.trans (BO6.out.mono WO.out))
   clear c0 c1 c2 c3 c4 c5 c6 x0 x1 x2 x3 x4 x5 x6 g0 g1 g2 g3 g4 g5 g6 K2 K3 K5 BO BO5 SS S5 S5L O56
   go_loopw [6] (fun ub wi => ∃ (k2 : Nat) (vb : Value) (zs : List Value), ub = .int .i64 (k2 : Int) ∧ k2 ≤ mf ∧ Only (fun b => b = wo.heap.size) w6 wi ∧ Blk wi wo.heap.size #[.int .i64 k, .int .i64 0, .int .i64 nn, .string sv, .int .i64 op, .slice A7 l.bare.len d7, vb] 41 ∧ OwnX 94 2 w6.heap.size (PB P w6) wi vb (takeB f k2) zs) (fun ub _ => mf - (intOf ub).toNat)
   case atStart => exact ⟨0, _, [], rfl, Nat.zero_le _, Only.refl _ _, K6.out, by rw [takeB_zero]; exact OwnX.nil⟩
   case round =>
    obtain ⟨k2, vb, zs, rfl, hk, ow, kb, rowb⟩ := hrel
    obtain ⟨M, hM⟩ : ∃ M, takeB f k2 = M := ⟨_, rfl⟩
    rw [hM] at rowb
    have hMl : M.len = k2 := by rw [← hM]; exact takeB_len f k2 (by rw [elems_len, ← HMF.out]; exact hk)
    obtain ⟨Ab, cb, rfl, -⟩ := sl_shape2 (rowb.reads (fun k hk => Or.inr hk))
    have RB := Lib.hid rowb
    have KB := Lib.hid kb
    have OW := Lib.hid ow
    have HM := Lib.hid hM
    have HML := Lib.hid hMl
    have BWi := Lib.hid (BW6.out.trans (ow.below (B := w.heap.size) (fun n e => by subst e; exact WO.out) BW6.out.size))
    have k0 : (0 : Int) ≤ (k2 : Int) := by omega
    have fl := FM.out
    have m1 : (mf : Int) ≤ 100000 := by omega
    have wk : wrap64 ((k2 : Int) + 1) = (k2 : Int) + 1 := by unfold wrap64; omega
    clear fl rowb kb ow hM hMl
    obtain ⟨⟨x0, x1, x2, x3, x4, x5, x6⟩, g0, g1, g2, g3, g4, g5, g6⟩ := KB.out.seven
    have cf := cell_in BWi.out CF.out
    by_cases hlk : k2 < mf
    ·obtain ⟨g, z, t0, t1, rfl, hz, ⟨h0, h1⟩, rz⟩ := Sl.at2 SF.out (by rw [← HMF.out]; exact hlk)
     obtain ⟨ps, bd, r0, r1, rfl, hv, st, sb⟩ := Rd.is_f rz rfl
     simp only [Array.mk.injEq, List.cons.injEq, and_true] at hv
     obtain ⟨rfl, rfl⟩ := hv
     obtain ⟨A3, d3, rfl⟩ := strs_slice st
     have STP := Lib.hid st
     have H0 := Lib.hid h0
     have H1 := Lib.hid h1
     replace h0 := cell_in BWi.out h0
     obtain ⟨A8, d8, rfl⟩ := sl_slice sb
     replace h1 := cell_in BWi.out h1
     have C2 := Lib.hid (fun W (b : Below w.heap.size w W) => Q2.out _ (List.mem_of_getElem? hz) ps bd rfl W P _ (Sl.bel b sb))
     unfold BaR at C2
     have HZ2 := Lib.hid (takeB_step f k2 _ hz)
     have hl2 : (k2 : Int) < (mf : Int) := by omega
     have HLK := Lib.hid hlk
     have KB7 := Lib.hid (show Blk wr.drew wo.heap.size #[.int .i64 k, .int .i64 0, .int .i64 nn, .string sv, .int .i64 op, .slice A7 l.bare.len d7, .slice Ab M.len cb] 41 from KB.out)
     have RB7 := Lib.hid (RB.out.below (Below.refl _ wr).drew)
     have OW7 := Lib.hid OW.out.drew
     have BW7 := Lib.hid BWi.out.drew
     clear hk hlk hz rz sb st
     go_wp2_with fail
     clear KB RB OW BWi
     have KB : Hid (∀ W, Below w.heap.size w W → W.cell? ⟨(p.add (i * 7)).block, (p.add (i * 7)).off + 6, none⟩ = some (.slice (some g) mf d6) ∧ W.cell? (g.add (k2 * 2)) = some (.slice A3 ps.length d3) ∧ W.cell? ⟨(g.add (k2 * 2)).block, (g.add (k2 * 2)).off + 1, none⟩ = some (.slice A8 bd.len d8)) := Lib.hid (fun W b => ⟨cell_in b CF.out, cell_in b H0.out, cell_in b H1.out⟩)
     clear cf h0 h1
     refine wp_region_held_drew (S := fun W => Below w.heap.size w W) (by kernel_rfl) BW7.out (fun hH0 => ?_)
     refine tkB 0 hH0 ?_
     refine tkB 2 hH0 ?_
     refine tkB 3 hH0 ?_
     refine tkB 4 hH0 ?_
     refine tkB 5 hH0 ?_
     refine tkB 6 hH0 ?_
     refine tkB 7 hH0 ?_
     refine tkB 8 hH0 ?_
     refine tkB 9 hH0 ?_
     refine tkB 10 hH0 ?_
     refine tkB 11 hH0 ?_
     refine tkB 12 hH0 ?_
     refine tkB 13 hH0 ?_
     refine tkB 14 hH0 ?_
     refine tkB 15 hH0 ?_
     refine tkB 16 hH0 ?_
     refine tkB 17 hH0 ?_
     refine tkB 18 hH0 ?_
     refine tkB 19 hH0 ?_
     refine wpAnyH_ready (rs := [1, 20]) (by kernel_rfl) (by simp) ?_
     refine rdB (fun K hK => ?_) (rdB (fun K hK => ?_) AllReadyH.nil)
     ·skip
      rw [if_pos (by rfl)]
      go_wp2_with fail
      refine hK.out _ _ hH0 (fun hH1 => ?_)
      clear hK K
      try simp only [Act.put, List.setIfInBounds_toArray, List.set_cons_zero, List.set_cons_succ]
      refine wpAnyH_ready (rs := [20]) (by kernel_rfl) (by simp) ?_
      refine rdB (fun K hK => ?_) AllReadyH.nil
      rw [if_pos (by rfl)]
      go_wp2_with (go_at_call 14; (with_reducible refine (C2.out _ BW7.out).mono ?_); rintro en w8 ⟨v8, rfl, s8, b8⟩; obtain ⟨A9, d9, rfl⟩ := sl_slice s8; have HX8 := Lib.hid (show (Rd w8 (fun k => PB P w6 k ∧ (Value.slice Ab M.len cb).ownBlock ≠ some k) (X.f ps bd.bare)).cells #[.slice A3 ps.length d3, .slice A9 bd.bare.len d9] from ⟨_, _, rfl, STP.out.move (Moves.of_below (BW7.out.trans (b8.mono BW7.out.size)) (fun k hk hl => ⟨.inl hk, fun q => by have q2 := RB7.out.row.lt k q; have := BW6.out.size; omega⟩)), (s8.imp (Rd.move (Q := fun k => PB P w6 k ∧ (Value.slice Ab M.len cb).ownBlock ≠ some k) (Moves.of_below (Below.refl _ _) (fun k hk _ => ⟨hk.imp id (fun h => Nat.le_trans OW7.out.size h), fun q => by have q2 := RB7.out.row.lt k q; rcases hk with h | h; have := HP.out k h; have := BW6.out.size; omega; omega⟩)) bd.bare).2.1)⟩); have K8 := Lib.hid (KB7.out.below b8 KB7.out.lt); have RB8 := Lib.hid (RB7.out.below b8); have OW8 := Lib.hid (OW7.out.bel b8); have ON8 := Lib.hid (Rd.one_cells _ _ HX8.out); have ZA := Lib.hid (RB8.out.alloc (.cells #[.slice A3 ps.length d3, .slice A9 bd.bare.len d9] 94)).row; have SZ := Lib.hid (show w6.heap.size ≤ (w8.alloc (.cells #[.slice A3 ps.length d3, .slice A9 bd.bare.len d9] 94)).heap.size from Nat.le_trans OW8.out.size (Nat.le_of_lt (al_lt w8 _))); obtain ⟨⟨y0, y1, y2, y3, y4, y5, y6⟩, -⟩ := K8.out.seven; have ya6 := keep_al (.cells #[.slice A3 ps.length d3, .slice A9 bd.bare.len d9] 94) y6; have BW8 := Lib.hid (BW7.out.trans (b8.mono BW7.out.size)); clear s8 b8)
      refine hK.out _ _ BW8.out (fun hH2 => ?_)
      clear hK K
      try simp only [Act.put, List.setIfInBounds_toArray, List.set_cons_zero, List.set_cons_succ]
      refine tkB 21 hH2 ?_
      refine wpAnyH_ready (rs := [22]) (by kernel_rfl) (by simp) ?_
      refine rdB (fun K hK => ?_) AllReadyH.nil
      rw [if_pos (by rfl)]
      go_wp2_with fail
      refine hK.out _ _ (BW8.out.alloc BW8.out.size _) (fun hH3 => ?_)
      clear hK K
      try simp only [Act.put, List.setIfInBounds_toArray, List.set_cons_zero, List.set_cons_succ]
      refine wpAnyH_ready (rs := [23]) (by kernel_rfl) (by simp) ?_
      refine rdB (fun K hK => ?_) AllReadyH.nil
      refine step_append_fun rfl (.tmp 34) (.tmp 55) rfl w6.heap.size (.slice Ab M.len cb) M.len zs ?_ ?_ w8.heap.size ?_ (.slice A3 ps.length d3) (.slice A9 bd.bare.len d9) ?_ ?_ ?_ ?_ ?_; rfl; exact ZA.out; rfl; exact Blk.new w8 _ _; exact ON8.out; (have := HML.out; have := HLK.out; have := FM.out; omega); exact SZ.out; intro v9 w9 own9 g9 l9; have RB9 := Lib.hid (RB8.out.pushed HX8.out rfl own9 g9 l9); have OG := Lib.hid (grown_only g9); have K9 := Lib.hid ((blk_al (.cells #[.slice A3 ps.length d3, .slice A9 bd.bare.len d9] 94) K8.out).only OG.out (fun e => by have q := (RB8.out.row.lt _ e).1; have := S6L.out; omega)); have OW9 := Lib.hid ((OW8.out.alloc (.cells #[.slice A3 ps.length d3, .slice A9 bd.bare.len d9] 94)).trans OG.out (fun i e => .inr (RB8.out.row.lt i e).1)); have BW9 := Lib.hid (grow_below BW8.out BW8.out.size g9 (fun k e => Nat.le_trans BW6.out.size (RB8.out.row.lt k e).1)); clear own9 g9 l9; obtain ⟨A10, c10, rfl, -⟩ := sl_shape2 (RB9.out.reads (fun k hk => Or.inr hk)); obtain ⟨⟨x0, x1, x2, x3, x4, x5, x6⟩, g0, g1, g2, g3, g4, g5, g6⟩ := K9.out.seven
      refine hK.out _ _ BW9.out (fun hH4 => ?_)
      clear hK K
      try simp only [Act.put, List.setIfInBounds_toArray, List.set_cons_zero, List.set_cons_succ]
      refine tkB 24 hH4 ?_
      refine wpAnyH_ready (rs := [25]) (by kernel_rfl) (by simp) ?_
      refine rdB (fun K hK => ?_) AllReadyH.nil
      rw [if_pos (by rfl)]
      go_wp2_with fail
      refine hK.out _ _ (BW9.out.setCell WO.out _) (fun hH5 => ?_)
      clear hK K
      try simp only [Act.put, List.setIfInBounds_toArray, List.set_cons_zero, List.set_cons_succ]
      refine wpAnyH_done (by kernel_rfl) ?_ _
      go_wp2_with fail
      have OS := Lib.hid ((Only.refl (fun b => b = wo.heap.size) w9).setCell (p := ⟨wo.heap.size, 6, none⟩) (.inl rfl) (.slice A10 (M.snoc (X.f ps bd.bare)).len c10))
      refine ⟨⟨k2 + 1, (.slice A10 (M.snoc (X.f ps bd.bare)).len c10), zs ++ (#[.slice A3 ps.length d3, .slice A9 bd.bare.len d9] : Array Value).toList, ?_, HLK.out, OW9.out.setCell (p := ⟨wo.heap.size, 6, none⟩) (.inl rfl) _, blk_cell K9.out 6 _, ?_⟩, ?_⟩
      ·first | rfl | exact congrArg (Value.int .i64) (wk.trans (by omega))
      ·rw [HZ2.out, HM.out]; exact RB9.out.only OS.out (fun k e => by subst e; exact ⟨S6L.out, fun h => by rcases h with h | h; have := HP.out _ h; have := WO.out; omega; have := S6L.out; omega⟩)
      ·have := HLK.out; simp only [intOf]; omega
     ·skip
      rw [if_pos (by rfl)]
      go_wp2_with (go_at_call 14; (with_reducible refine (C2.out _ BW7.out).mono ?_); rintro en w8 ⟨v8, rfl, s8, b8⟩; obtain ⟨A9, d9, rfl⟩ := sl_slice s8; have HX8 := Lib.hid (show (Rd w8 (fun k => PB P w6 k ∧ (Value.slice Ab M.len cb).ownBlock ≠ some k) (X.f ps bd.bare)).cells #[.slice A3 ps.length d3, .slice A9 bd.bare.len d9] from ⟨_, _, rfl, STP.out.move (Moves.of_below (BW7.out.trans (b8.mono BW7.out.size)) (fun k hk hl => ⟨.inl hk, fun q => by have q2 := RB7.out.row.lt k q; have := BW6.out.size; omega⟩)), (s8.imp (Rd.move (Q := fun k => PB P w6 k ∧ (Value.slice Ab M.len cb).ownBlock ≠ some k) (Moves.of_below (Below.refl _ _) (fun k hk _ => ⟨hk.imp id (fun h => Nat.le_trans OW7.out.size h), fun q => by have q2 := RB7.out.row.lt k q; rcases hk with h | h; have := HP.out k h; have := BW6.out.size; omega; omega⟩)) bd.bare).2.1)⟩); have K8 := Lib.hid (KB7.out.below b8 KB7.out.lt); have RB8 := Lib.hid (RB7.out.below b8); have OW8 := Lib.hid (OW7.out.bel b8); have ON8 := Lib.hid (Rd.one_cells _ _ HX8.out); have ZA := Lib.hid (RB8.out.alloc (.cells #[.slice A3 ps.length d3, .slice A9 bd.bare.len d9] 94)).row; have SZ := Lib.hid (show w6.heap.size ≤ (w8.alloc (.cells #[.slice A3 ps.length d3, .slice A9 bd.bare.len d9] 94)).heap.size from Nat.le_trans OW8.out.size (Nat.le_of_lt (al_lt w8 _))); obtain ⟨⟨y0, y1, y2, y3, y4, y5, y6⟩, -⟩ := K8.out.seven; have ya6 := keep_al (.cells #[.slice A3 ps.length d3, .slice A9 bd.bare.len d9] 94) y6; have BW8 := Lib.hid (BW7.out.trans (b8.mono BW7.out.size)); clear s8 b8)
      refine hK.out _ _ BW8.out (fun hH1 => ?_)
      clear hK K
      try simp only [Act.put, List.setIfInBounds_toArray, List.set_cons_zero, List.set_cons_succ]
      refine tkB 21 hH1 ?_
      refine wpAnyH_ready (rs := [1, 22]) (by kernel_rfl) (by simp) ?_
      refine rdB (fun K hK => ?_) (rdB (fun K hK => ?_) AllReadyH.nil)
      ·skip
       rw [if_pos (by rfl)]
       go_wp2_with fail
       refine hK.out _ _ hH1 (fun hH2 => ?_)
       clear hK K
       try simp only [Act.put, List.setIfInBounds_toArray, List.set_cons_zero, List.set_cons_succ]
       refine wpAnyH_ready (rs := [22]) (by kernel_rfl) (by simp) ?_
       refine rdB (fun K hK => ?_) AllReadyH.nil
       rw [if_pos (by rfl)]
       go_wp2_with fail
       refine hK.out _ _ (BW8.out.alloc BW8.out.size _) (fun hH3 => ?_)
       clear hK K
       try simp only [Act.put, List.setIfInBounds_toArray, List.set_cons_zero, List.set_cons_succ]
       refine wpAnyH_ready (rs := [23]) (by kernel_rfl) (by simp) ?_
       refine rdB (fun K hK => ?_) AllReadyH.nil
       refine step_append_fun rfl (.tmp 34) (.tmp 55) rfl w6.heap.size (.slice Ab M.len cb) M.len zs ?_ ?_ w8.heap.size ?_ (.slice A3 ps.length d3) (.slice A9 bd.bare.len d9) ?_ ?_ ?_ ?_ ?_; rfl; exact ZA.out; rfl; exact Blk.new w8 _ _; exact ON8.out; (have := HML.out; have := HLK.out; have := FM.out; omega); exact SZ.out; intro v9 w9 own9 g9 l9; have RB9 := Lib.hid (RB8.out.pushed HX8.out rfl own9 g9 l9); have OG := Lib.hid (grown_only g9); have K9 := Lib.hid ((blk_al (.cells #[.slice A3 ps.length d3, .slice A9 bd.bare.len d9] 94) K8.out).only OG.out (fun e => by have q := (RB8.out.row.lt _ e).1; have := S6L.out; omega)); have OW9 := Lib.hid ((OW8.out.alloc (.cells #[.slice A3 ps.length d3, .slice A9 bd.bare.len d9] 94)).trans OG.out (fun i e => .inr (RB8.out.row.lt i e).1)); have BW9 := Lib.hid (grow_below BW8.out BW8.out.size g9 (fun k e => Nat.le_trans BW6.out.size (RB8.out.row.lt k e).1)); clear own9 g9 l9; obtain ⟨A10, c10, rfl, -⟩ := sl_shape2 (RB9.out.reads (fun k hk => Or.inr hk)); obtain ⟨⟨x0, x1, x2, x3, x4, x5, x6⟩, g0, g1, g2, g3, g4, g5, g6⟩ := K9.out.seven
       refine hK.out _ _ BW9.out (fun hH4 => ?_)
       clear hK K
       try simp only [Act.put, List.setIfInBounds_toArray, List.set_cons_zero, List.set_cons_succ]
       refine tkB 24 hH4 ?_
       refine wpAnyH_ready (rs := [25]) (by kernel_rfl) (by simp) ?_
       refine rdB (fun K hK => ?_) AllReadyH.nil
       rw [if_pos (by rfl)]
       go_wp2_with fail
       refine hK.out _ _ (BW9.out.setCell WO.out _) (fun hH5 => ?_)
       clear hK K
       try simp only [Act.put, List.setIfInBounds_toArray, List.set_cons_zero, List.set_cons_succ]
       refine wpAnyH_done (by kernel_rfl) ?_ _
       go_wp2_with fail
       have OS := Lib.hid ((Only.refl (fun b => b = wo.heap.size) w9).setCell (p := ⟨wo.heap.size, 6, none⟩) (.inl rfl) (.slice A10 (M.snoc (X.f ps bd.bare)).len c10))
       refine ⟨⟨k2 + 1, (.slice A10 (M.snoc (X.f ps bd.bare)).len c10), zs ++ (#[.slice A3 ps.length d3, .slice A9 bd.bare.len d9] : Array Value).toList, ?_, HLK.out, OW9.out.setCell (p := ⟨wo.heap.size, 6, none⟩) (.inl rfl) _, blk_cell K9.out 6 _, ?_⟩, ?_⟩
       ·first | rfl | exact congrArg (Value.int .i64) (wk.trans (by omega))
       ·rw [HZ2.out, HM.out]; exact RB9.out.only OS.out (fun k e => by subst e; exact ⟨S6L.out, fun h => by rcases h with h | h; have := HP.out _ h; have := WO.out; omega; have := S6L.out; omega⟩)
       ·have := HLK.out; simp only [intOf]; omega
      ·skip
       rw [if_pos (by rfl)]
       go_wp2_with fail
       refine hK.out _ _ (BW8.out.alloc BW8.out.size _) (fun hH2 => ?_)
       clear hK K
       try simp only [Act.put, List.setIfInBounds_toArray, List.set_cons_zero, List.set_cons_succ]
       refine wpAnyH_ready (rs := [1]) (by kernel_rfl) (by simp) ?_
       refine rdB (fun K hK => ?_) AllReadyH.nil
       rw [if_pos (by rfl)]
       go_wp2_with fail
       refine hK.out _ _ hH2 (fun hH3 => ?_)
       clear hK K
       try simp only [Act.put, List.setIfInBounds_toArray, List.set_cons_zero, List.set_cons_succ]
       refine wpAnyH_ready (rs := [23]) (by kernel_rfl) (by simp) ?_
       refine rdB (fun K hK => ?_) AllReadyH.nil
       refine step_append_fun rfl (.tmp 34) (.tmp 55) rfl w6.heap.size (.slice Ab M.len cb) M.len zs ?_ ?_ w8.heap.size ?_ (.slice A3 ps.length d3) (.slice A9 bd.bare.len d9) ?_ ?_ ?_ ?_ ?_; rfl; exact ZA.out; rfl; exact Blk.new w8 _ _; exact ON8.out; (have := HML.out; have := HLK.out; have := FM.out; omega); exact SZ.out; intro v9 w9 own9 g9 l9; have RB9 := Lib.hid (RB8.out.pushed HX8.out rfl own9 g9 l9); have OG := Lib.hid (grown_only g9); have K9 := Lib.hid ((blk_al (.cells #[.slice A3 ps.length d3, .slice A9 bd.bare.len d9] 94) K8.out).only OG.out (fun e => by have q := (RB8.out.row.lt _ e).1; have := S6L.out; omega)); have OW9 := Lib.hid ((OW8.out.alloc (.cells #[.slice A3 ps.length d3, .slice A9 bd.bare.len d9] 94)).trans OG.out (fun i e => .inr (RB8.out.row.lt i e).1)); have BW9 := Lib.hid (grow_below BW8.out BW8.out.size g9 (fun k e => Nat.le_trans BW6.out.size (RB8.out.row.lt k e).1)); clear own9 g9 l9; obtain ⟨A10, c10, rfl, -⟩ := sl_shape2 (RB9.out.reads (fun k hk => Or.inr hk)); obtain ⟨⟨x0, x1, x2, x3, x4, x5, x6⟩, g0, g1, g2, g3, g4, g5, g6⟩ := K9.out.seven
       refine hK.out _ _ BW9.out (fun hH4 => ?_)
       clear hK K
       try simp only [Act.put, List.setIfInBounds_toArray, List.set_cons_zero, List.set_cons_succ]
       refine tkB 24 hH4 ?_
       refine wpAnyH_ready (rs := [25]) (by kernel_rfl) (by simp) ?_
       refine rdB (fun K hK => ?_) AllReadyH.nil
       rw [if_pos (by rfl)]
       go_wp2_with fail
       refine hK.out _ _ (BW9.out.setCell WO.out _) (fun hH5 => ?_)
       clear hK K
       try simp only [Act.put, List.setIfInBounds_toArray, List.set_cons_zero, List.set_cons_succ]
       refine wpAnyH_done (by kernel_rfl) ?_ _
       go_wp2_with fail
       have OS := Lib.hid ((Only.refl (fun b => b = wo.heap.size) w9).setCell (p := ⟨wo.heap.size, 6, none⟩) (.inl rfl) (.slice A10 (M.snoc (X.f ps bd.bare)).len c10))
       refine ⟨⟨k2 + 1, (.slice A10 (M.snoc (X.f ps bd.bare)).len c10), zs ++ (#[.slice A3 ps.length d3, .slice A9 bd.bare.len d9] : Array Value).toList, ?_, HLK.out, OW9.out.setCell (p := ⟨wo.heap.size, 6, none⟩) (.inl rfl) _, blk_cell K9.out 6 _, ?_⟩, ?_⟩
       ·first | rfl | exact congrArg (Value.int .i64) (wk.trans (by omega))
       ·rw [HZ2.out, HM.out]; exact RB9.out.only OS.out (fun k e => by subst e; exact ⟨S6L.out, fun h => by rcases h with h | h; have := HP.out _ h; have := WO.out; omega; have := S6L.out; omega⟩)
       ·have := HLK.out; simp only [intOf]; omega
    ·have hl2 : ¬ (k2 : Int) < (mf : Int) := by omega
     obtain rfl : M = f.bare := by rw [← HM.out, show k2 = f.len by rw [← HMF.out]; omega]; exact HTB.out
     have BOi := Lib.hid (BO6.out.trans (OW.out.below (B := wo.heap.size) (fun n e => Nat.le_of_eq e.symm) BO6.out.size))
     have RX := Lib.hid (RO.out.below BOi.out)
     have HXE := Lib.hid (show (Rd wr (fun k => PB P w k ∧ (Value.slice Ao L.len co).ownBlock ≠ some k) (X.e k 0 nn sv op l.bare f.bare)).cells #[.int .i64 k, .int .i64 0, .int .i64 nn, .string sv, .int .i64 op, .slice A7 l.bare.len d7, .slice Ab f.bare.len cb] from ⟨_, _, rfl, (S6.out.imp (Rd.move (Q := (fun k => PB P w k ∧ (Value.slice Ao L.len co).ownBlock ≠ some k)) (Moves.of_only OW.out (fun k hk _ e => by subst e; rcases hk with h | h; exact absurd (HP.out _ h) (by have := WO.out; omega); omega) (fun k hk _ => ⟨hk.imp id (fun h => by have := WO.out; omega), fun q => by have q2 := RO.out.row.lt k q; rcases hk with h | h; have := HP.out k h; omega; omega⟩)) l.bare).2.1), ((RB.out.reads (fun k hk => Or.inr hk)).imp (Rd.move (Q := (fun k => PB P w k ∧ (Value.slice Ao L.len co).ownBlock ≠ some k)) (Moves.of_below (Below.refl _ _) (fun k hk _ => ⟨hk.imp id (fun h => Nat.le_trans BW6.out.size h), fun q => by have q2 := RO.out.row.lt k q; have := S6L.out; rcases hk with h | h; have := HP.out k h; omega; omega⟩)) f.bare).2.1)⟩)
     have ONE := Lib.hid (Rd.one_cells _ _ HXE.out)
     have ZA := Lib.hid (RX.out.alloc (.cells #[.int .i64 k, .int .i64 0, .int .i64 nn, .string sv, .int .i64 op, .slice A7 l.bare.len d7, .slice Ab f.bare.len cb] 41)).row
     have SZ := Lib.hid (show w.heap.size ≤ (wr.alloc (.cells #[.int .i64 k, .int .i64 0, .int .i64 nn, .string sv, .int .i64 op, .slice A7 l.bare.len d7, .slice Ab f.bare.len cb] 41)).heap.size from Nat.le_trans BWi.out.size (Nat.le_of_lt (al_lt wr _)))
     clear hk hlk
     go_wp2_with (first
      |(at_builtin; refine wpList_append_exp rfl (.tmp 58) (.tmp 60) rfl w.heap.size (.slice Ao L.len co) L.len ys ?_ ?_ wr.heap.size ?_ (.int .i64 k) (.int .i64 0) (.int .i64 nn) (.string sv) (.int .i64 op) (.slice A7 l.bare.len d7) (.slice Ab f.bare.len cb) ?_ ?_ ?_ ?_ ?_; rfl; exact ZA.out; rfl; exact Blk.new wr _ _; exact ONE.out; (have := HLL.out; have := HLT.out; omega); exact SZ.out; intro v11 w11 own11 g11 l11; have R11 := Lib.hid (RX.out.pushed HXE.out rfl own11 g11 l11); have B11 := Lib.hid (grow_below BWi.out BWi.out.size g11 (fun k e => (RX.out.row.lt k e).1)); clear own11 g11 l11))
     refine ⟨⟨i + 1, _, ys ++ (#[.int .i64 k, .int .i64 0, .int .i64 nn, .string sv, .int .i64 op, .slice A7 l.bare.len d7, .slice Ab f.bare.len cb] : Array Value).toList, _, _, rfl, ?_, rfl, rfl, HLT.out, ?_, B11.out⟩, ?_⟩
     ·first | rfl | exact congrArg (Value.int .i64) (wri.trans (by omega))
     ·rw [takeB_step x i _ HY.out, HL2.out]; exact R11.out
     ·have := HLT.out; simp only [intOf]; omega
  ·have hl1 : ¬ (i : Int) < (n : Int) := by omega
   obtain rfl : L = x.bare := by rw [← HL2.out, show i = x.len by rw [← HN.out]; omega]; exact HTK.out
   clear hlt hi
   go_wp2_with fail
   go_ret
   exact ⟨_, rfl, RO.out.reads (fun k hk => Or.inr hk), HB.out⟩
set_option maxRecDepth 20000 in
set_option maxHeartbeats 8000000 in
theorem rbar_s (w : World) (P : Nat → Prop) (x : X) (A : Option Addr) (n c : Nat) (h : Sl x.len (Rd w P x).row 5 (.slice A n c)) (hP : ∀ k, P k → k < w.heap.size) (hb : x.fit 100000) (H : ∀ y ∈ x.elems, BarQ y) : Calls Tryz.prog 14 #[.slice A n c] w (BaR x 5 P w) := by
 have HX := Lib.hid h
 have HQ := Lib.hid (fun y hy => H y hy (fit_elems x hb y hy))
 have HFE := Lib.hid (fit_elems x hb)
 have HN := Lib.hid (Sl.len h).1
 have HP := Lib.hid hP
 have HTK := Lib.hid (takeB_bare h)
 have hn := X.fit_len x hb
 rw [← HN.out] at hn
 have n0 : (0 : Int) ≤ (n : Int) := by omega
 have n1 : (n : Int) ≤ 100000 := by omega
 clear h H hb hP
 go_enter Tryz.func14, Tryz.ntmps14
 go_wp2_with fail
 go_loopw [3, 4, 5, 6] (fun u3 u4 u5 u6 wr => ∃ (i : Nat) (vo : Value) (ys : List Value) (q5 q6 : Value), u3 = vo ∧ u4 = .int .i64 (i : Int) ∧ u5 = q5 ∧ u6 = q6 ∧ i ≤ n ∧ OwnX 34 5 w.heap.size (PB P w) wr vo (takeB x i) ys ∧ Below w.heap.size w wr) (fun _ u4 _ _ _ => (n : Int).toNat - (intOf u4).toNat)
 case atStart => exact ⟨0, _, [], undef, undef, rfl, rfl, rfl, rfl, Nat.zero_le _, by rw [takeB_zero]; exact OwnX.nil, Below.refl _ _⟩
 case round =>
  obtain ⟨i, vo, ys, q5, q6, rfl, rfl, rfl, rfl, hi, row, hbl⟩ := hrel
  generalize wr = wo at *
  obtain ⟨L, hL⟩ : ∃ L, takeB x i = L := ⟨_, rfl⟩
  rw [hL] at row
  have hLl : L.len = i := by rw [← hL]; exact takeB_len x i (by rw [elems_len, ← HN.out]; exact hi)
  obtain ⟨Ao, co, rfl, -⟩ := sl_shape2 (row.reads (fun k hk => Or.inr hk))
  have RO := Lib.hid row
  have HB := Lib.hid hbl
  have HL2 := Lib.hid hL
  have HLL := Lib.hid hLl
  have i0 : (0 : Int) ≤ (i : Int) := by omega
  have wri : wrap64 ((i : Int) + 1) = (i : Int) + 1 := by unfold wrap64; omega
  clear row hbl hL hLl
  by_cases hlt : i < n
  ·obtain ⟨p, y, v0, v1, v2, v3, v4, rfl, hy, ⟨c0, c1, c2, c3, c4⟩, rd⟩ := Sl.at5 HX.out (by rw [← HN.out]; exact hlt)
   obtain ⟨k, ac, ns, l, f, v2', v3', v4', rfl, hv, st, sl, sf⟩ := Rd.is_s rd rfl
   simp only [Array.mk.injEq, List.cons.injEq, and_true] at hv
   obtain ⟨rfl, rfl, rfl, rfl, rfl⟩ := hv
   obtain ⟨A4, d4, rfl⟩ := strs_slice st
   obtain ⟨A5, d5, rfl⟩ := sl_slice sl
   obtain ⟨A6, mf, d6, rfl, hmf⟩ := sl_slice2 sf
   have CF := Lib.hid c4
   replace c0 := cell_in HB.out c0
   replace c1 := cell_in HB.out c1
   replace c2 := cell_in HB.out c2
   replace c3 := cell_in HB.out c3
   replace c4 := cell_in HB.out c4
   have QY := HQ.out _ (List.mem_of_getElem? hy)
   have FA := HFE.out _ (List.mem_of_getElem? hy)
   have CL := Lib.hid (fun W (b : Below w.heap.size w W) => QY.1 W P _ (Sl.bel b sl))
   have Q2 := Lib.hid QY.2
   unfold BaR at CL
   have FM := Lib.hid (show mf ≤ 100000 by rw [hmf]; exact X.fit_len f FA.1.2.2)
   have SF := Lib.hid sf
   have HMF := Lib.hid hmf
   have HTB := Lib.hid (takeB_bare sf)
   have HY := Lib.hid hy
   have HLT := Lib.hid hlt
   have ST := Lib.hid st
   have RD := Lib.hid rd
   have hl1 : (i : Int) < (n : Int) := by omega
   have WO := Lib.hid HB.out.size
   clear QY FA sl sf hmf hy hlt hi rd st
   go_wp2_with (first
    |(refine wpList_store_row rfl 34 (.tmp 5) (.tmp 16) rfl wo.heap.size #[.int .i64 k, .int .i64 ac, .slice A4 ns.length d4, .slice A5 l.len d5, .slice A6 mf d6] rfl rfl 34 _ (Blk.new wo Z5 34) sizeSt rfl (onesN (Rd.one_cells _ _ RD.out)) ?_; obtain ⟨w2, hw, bb, K2, ss⟩ := boxT wo #[.int .i64 k, .int .i64 ac, .slice A4 ns.length d4, .slice A5 l.len d5, .slice A6 mf d6] Z5 34; rw [← hw]; clear hw; have BO := Lib.hid (show Below wo.heap.size wo (w2.setCell ⟨wo.heap.size, 1, none⟩ (.int .i64 0)) from bb.out.setCell (Nat.le_refl _) _); have K3 := Lib.hid (show Blk (w2.setCell ⟨wo.heap.size, 1, none⟩ (.int .i64 0)) wo.heap.size #[.int .i64 k, .int .i64 0, .slice A4 ns.length d4, .slice A5 l.len d5, .slice A6 mf d6] 34 from blk_cell K2.out 1 (.int .i64 0)); have SS := Lib.hid (show wo.heap.size < (w2.setCell ⟨wo.heap.size, 1, none⟩ (.int .i64 0)).heap.size by rw [World.size_setCell]; exact ss.out); obtain ⟨⟨x0, x1, x2, x3, x4⟩, g0, g1, g2, g3, g4⟩ := K2.out.five; clear bb ss)
    |(refine wp_store_row 34 (.tmp 5) (.tmp 16) rfl wo.heap.size #[.int .i64 k, .int .i64 ac, .slice A4 ns.length d4, .slice A5 l.len d5, .slice A6 mf d6] rfl rfl 34 _ (Blk.new wo Z5 34) sizeSt rfl (onesN (Rd.one_cells _ _ RD.out)) ?_; obtain ⟨w2, hw, bb, K2, ss⟩ := boxT wo #[.int .i64 k, .int .i64 ac, .slice A4 ns.length d4, .slice A5 l.len d5, .slice A6 mf d6] Z5 34; rw [← hw]; clear hw; have BO := Lib.hid (show Below wo.heap.size wo (w2.setCell ⟨wo.heap.size, 1, none⟩ (.int .i64 0)) from bb.out.setCell (Nat.le_refl _) _); have K3 := Lib.hid (show Blk (w2.setCell ⟨wo.heap.size, 1, none⟩ (.int .i64 0)) wo.heap.size #[.int .i64 k, .int .i64 0, .slice A4 ns.length d4, .slice A5 l.len d5, .slice A6 mf d6] 34 from blk_cell K2.out 1 (.int .i64 0)); have SS := Lib.hid (show wo.heap.size < (w2.setCell ⟨wo.heap.size, 1, none⟩ (.int .i64 0)).heap.size by rw [World.size_setCell]; exact ss.out); obtain ⟨⟨x0, x1, x2, x3, x4⟩, g0, g1, g2, g3, g4⟩ := K2.out.five; clear bb ss)
    |(go_at_call 31; (with_reducible refine (CL.out _ (HB.out.trans (BO.out.mono WO.out))).mono ?_); rintro en w5 ⟨v5, rfl, s5, b5⟩; obtain ⟨A7, d7, rfl⟩ := sl_slice s5; have K5 := Lib.hid (K3.out.below b5 K3.out.lt); have BO5 := Lib.hid (BO.out.trans (b5.mono BO.out.size)); have S5 := Lib.hid (s5.imp (Rd.move (Q := fun k => P k ∨ wo.heap.size < k) (Moves.of_below (Below.refl _ _) (fun k hk _ => hk.imp id (fun h => Nat.lt_of_lt_of_le SS.out h))) l.bare).2.1); have S5L := Lib.hid (Nat.lt_of_lt_of_le SS.out b5.size); clear s5 b5; obtain ⟨⟨x0, x1, x2, x3, x4⟩, g0, g1, g2, g3, g4⟩ := K5.out.five))
   have O56 := Lib.hid (((Only.refl (fun b => b = wo.heap.size) w5).setCell (p := ⟨wo.heap.size, 3, none⟩) (.inl rfl) (.slice A7 l.bare.len d7)).setCell (p := ⟨wo.heap.size, 4, none⟩) (.inl rfl) (.slice none 0 0))
   have K6 := Lib.hid (show Blk ((w5.setCell ⟨wo.heap.size, 3, none⟩ (.slice A7 l.bare.len d7)).setCell ⟨wo.heap.size, 4, none⟩ (.slice none 0 0)) wo.heap.size #[.int .i64 k, .int .i64 0, .slice A4 ns.length d4, .slice A7 l.bare.len d7, .slice none 0 0] 34 from blk_cell (show Blk (w5.setCell ⟨wo.heap.size, 3, none⟩ (.slice A7 l.bare.len d7)) wo.heap.size #[.int .i64 k, .int .i64 0, .slice A4 ns.length d4, .slice A7 l.bare.len d7, .slice A6 mf d6] 34 from blk_cell K5.out 3 _) 4 _)
   generalize ((w5.setCell ⟨wo.heap.size, 3, none⟩ (.slice A7 l.bare.len d7)).setCell ⟨wo.heap.size, 4, none⟩ (.slice none 0 0)) = w6 at *
   have BO6 := Lib.hid (BO5.out.trans (O56.out.below (B := wo.heap.size) (fun n e => Nat.le_of_eq e.symm) BO5.out.size))
   have S6 := Lib.hid (S5.out.imp (Rd.move (Moves.of_only O56.out (fun k hk _ e => by subst e; rcases hk with h | h; exact absurd (HP.out _ h) (by have := WO.out; omega); omega) (fun _ hk _ => hk)) l.bare).2.1)
   have S6L := Lib.hid (Nat.lt_of_lt_of_le S5L.out O56.out.size)
   have BW6 := Lib.hid (HB.out.trans (BO6.out.mono WO.out))
   clear c0 c1 c2 c3 c4 x0 x1 x2 x3 x4 g0 g1 g2 g3 g4 K2 K3 K5 BO BO5 SS S5 S5L O56
   go_loopw [6] (fun ub wi => ∃ (k2 : Nat) (vb : Value) (zs : List Value), ub = .int .i64 (k2 : Int) ∧ k2 ≤ mf ∧ Only (fun b => b = wo.heap.size) w6 wi ∧ Blk wi wo.heap.size #[.int .i64 k, .int .i64 0, .slice A4 ns.length d4, .slice A7 l.bare.len d7, vb] 34 ∧ OwnX 23 1 w6.heap.size (PB P w6) wi vb (takeB f k2) zs) (fun ub _ => mf - (intOf ub).toNat)
   case atStart => exact ⟨0, _, [], rfl, Nat.zero_le _, Only.refl _ _, K6.out, by rw [takeB_zero]; exact OwnX.nil⟩
   case round =>
    obtain ⟨k2, vb, zs, rfl, hk, ow, kb, rowb⟩ := hrel
    obtain ⟨M, hM⟩ : ∃ M, takeB f k2 = M := ⟨_, rfl⟩
    rw [hM] at rowb
    have hMl : M.len = k2 := by rw [← hM]; exact takeB_len f k2 (by rw [elems_len, ← HMF.out]; exact hk)
    obtain ⟨Ab, cb, rfl, -⟩ := sl_shape2 (rowb.reads (fun k hk => Or.inr hk))
    have RB := Lib.hid rowb
    have KB := Lib.hid kb
    have OW := Lib.hid ow
    have HM := Lib.hid hM
    have HML := Lib.hid hMl
    have BWi := Lib.hid (BW6.out.trans (ow.below (B := w.heap.size) (fun n e => by subst e; exact WO.out) BW6.out.size))
    have k0 : (0 : Int) ≤ (k2 : Int) := by omega
    have fl := FM.out
    have m1 : (mf : Int) ≤ 100000 := by omega
    have wk : wrap64 ((k2 : Int) + 1) = (k2 : Int) + 1 := by unfold wrap64; omega
    clear fl rowb kb ow hM hMl
    obtain ⟨⟨x0, x1, x2, x3, x4⟩, g0, g1, g2, g3, g4⟩ := KB.out.five
    have cf := cell_in BWi.out CF.out
    by_cases hlk : k2 < mf
    ·obtain ⟨g, z, t1, rfl, hz, h1, rz⟩ := Sl.at1 SF.out (by rw [← HMF.out]; exact hlk)
     rw [Nat.mul_one] at h1
     obtain ⟨bd, r1, rfl, hv, sb⟩ := Rd.is_b rz rfl
     simp only [Array.mk.injEq, List.cons.injEq, and_true] at hv
     subst hv
     obtain ⟨A8, d8, rfl⟩ := sl_slice sb
     replace h1 := cell_in BWi.out h1
     have C2 := Lib.hid (fun W (b : Below w.heap.size w W) => Q2.out _ (List.mem_of_getElem? hz) bd rfl W P _ (Sl.bel b sb))
     unfold BaR at C2
     have HZ2 := Lib.hid (takeB_step f k2 _ hz)
     have hl2 : (k2 : Int) < (mf : Int) := by omega
     have HLK := Lib.hid hlk
     have KB7 := Lib.hid (show Blk wr.drew wo.heap.size #[.int .i64 k, .int .i64 0, .slice A4 ns.length d4, .slice A7 l.bare.len d7, .slice Ab M.len cb] 34 from KB.out)
     have RB7 := Lib.hid (RB.out.below (Below.refl _ wr).drew)
     have OW7 := Lib.hid OW.out.drew
     have BW7 := Lib.hid BWi.out.drew
     clear hk hlk hz rz sb
     go_wp2_with fail
     clear KB RB OW BWi
     go_region_law (first | (refine step_append_blk rfl (.tmp 34) (.tmp 44) rfl w6.heap.size (.slice Ab M.len cb) M.len zs ?_ ?_ w8.heap.size ?_ (.slice A9 bd.bare.len d9) ?_ ?_ ?_ ?_ ?_; rfl; exact ZA.out; rfl; exact Blk.new w8 _ _; exact rfl; (have := HML.out; have := HLK.out; have := FM.out; omega); exact SZ.out; intro v9 w9 own9 g9 l9; have RB9 := Lib.hid (RB8.out.pushed HX8.out rfl own9 g9 l9); have OG := Lib.hid (grown_only g9); have K9 := Lib.hid ((blk_al (.cells #[.slice A9 bd.bare.len d9] 23) K8.out).only OG.out (fun e => by have q := (RB8.out.row.lt _ e).1; have := S6L.out; omega)); have OW9 := Lib.hid ((OW8.out.alloc (.cells #[.slice A9 bd.bare.len d9] 23)).trans OG.out (fun i e => .inr (RB8.out.row.lt i e).1));  clear own9 g9 l9; obtain ⟨A10, c10, rfl, -⟩ := sl_shape2 (RB9.out.reads (fun k hk => Or.inr hk)); obtain ⟨⟨x0, x1, x2, x3, x4⟩, g0, g1, g2, g3, g4⟩ := K9.out.five) | (go_simp; go_at_call 14; (with_reducible refine (C2.out _ BW7.out).mono ?_); rintro en w8 ⟨v8, rfl, s8, b8⟩; obtain ⟨A9, d9, rfl⟩ := sl_slice s8; have HX8 := Lib.hid (show (Rd w8 (fun k => PB P w6 k ∧ (Value.slice Ab M.len cb).ownBlock ≠ some k) (X.blk bd.bare)).cells #[.slice A9 bd.bare.len d9] from ⟨_, rfl, (s8.imp (Rd.move (Q := fun k => PB P w6 k ∧ (Value.slice Ab M.len cb).ownBlock ≠ some k) (Moves.of_below (Below.refl _ _) (fun k hk _ => ⟨hk.imp id (fun h => Nat.le_trans OW7.out.size h), fun q => by have q2 := RB7.out.row.lt k q; rcases hk with h | h; have := HP.out k h; have := BW6.out.size; omega; omega⟩)) bd.bare).2.1)⟩); have K8 := Lib.hid (KB7.out.below b8 KB7.out.lt); have RB8 := Lib.hid (RB7.out.below b8); have OW8 := Lib.hid (OW7.out.bel b8); have ON8 := Lib.hid (Rd.one_cells _ _ HX8.out); have ZA := Lib.hid (RB8.out.alloc (.cells #[.slice A9 bd.bare.len d9] 23)).row; have SZ := Lib.hid (show w6.heap.size ≤ (w8.alloc (.cells #[.slice A9 bd.bare.len d9] 23)).heap.size from Nat.le_trans OW8.out.size (Nat.le_of_lt (al_lt w8 _))); obtain ⟨⟨y0, y1, y2, y3, y4⟩, -⟩ := K8.out.five; have ya4 := keep_al (.cells #[.slice A9 bd.bare.len d9] 23) y4;  clear s8 b8))
     all_goals
      go_wp2_with fail
      have OS := Lib.hid ((Only.refl (fun b => b = wo.heap.size) w9).setCell (p := ⟨wo.heap.size, 4, none⟩) (.inl rfl) (.slice A10 (M.snoc (X.blk bd.bare)).len c10))
      refine ⟨⟨k2 + 1, (.slice A10 (M.snoc (X.blk bd.bare)).len c10), zs ++ (#[.slice A9 bd.bare.len d9] : Array Value).toList, ?_, HLK.out, OW9.out.setCell (p := ⟨wo.heap.size, 4, none⟩) (.inl rfl) _, blk_cell K9.out 4 _, ?_⟩, ?_⟩
      ·first | rfl | exact congrArg (Value.int .i64) (wk.trans (by omega))
      ·rw [HZ2.out, HM.out]; exact RB9.out.only OS.out (fun k e => by subst e; exact ⟨S6L.out, fun h => by rcases h with h | h; have := HP.out _ h; have := WO.out; omega; have := S6L.out; omega⟩)
      ·have := HLK.out; simp only [intOf]; omega
    ·have hl2 : ¬ (k2 : Int) < (mf : Int) := by omega
     obtain rfl : M = f.bare := by rw [← HM.out, show k2 = f.len by rw [← HMF.out]; omega]; exact HTB.out
     have BOi := Lib.hid (BO6.out.trans (OW.out.below (B := wo.heap.size) (fun n e => Nat.le_of_eq e.symm) BO6.out.size))
     have RX := Lib.hid (RO.out.below BOi.out)
     have HXE := Lib.hid (show (Rd wr (fun k => PB P w k ∧ (Value.slice Ao L.len co).ownBlock ≠ some k) (X.s k 0 ns l.bare f.bare)).cells #[.int .i64 k, .int .i64 0, .slice A4 ns.length d4, .slice A7 l.bare.len d7, .slice Ab f.bare.len cb] from ⟨_, _, _, rfl, (ST.out.move (Moves.of_below BWi.out (fun k hk hl => ⟨.inl hk, fun q => by have q2 := RO.out.row.lt k q; omega⟩))), (S6.out.imp (Rd.move (Q := (fun k => PB P w k ∧ (Value.slice Ao L.len co).ownBlock ≠ some k)) (Moves.of_only OW.out (fun k hk _ e => by subst e; rcases hk with h | h; exact absurd (HP.out _ h) (by have := WO.out; omega); omega) (fun k hk _ => ⟨hk.imp id (fun h => by have := WO.out; omega), fun q => by have q2 := RO.out.row.lt k q; rcases hk with h | h; have := HP.out k h; omega; omega⟩)) l.bare).2.1), ((RB.out.reads (fun k hk => Or.inr hk)).imp (Rd.move (Q := (fun k => PB P w k ∧ (Value.slice Ao L.len co).ownBlock ≠ some k)) (Moves.of_below (Below.refl _ _) (fun k hk _ => ⟨hk.imp id (fun h => Nat.le_trans BW6.out.size h), fun q => by have q2 := RO.out.row.lt k q; have := S6L.out; rcases hk with h | h; have := HP.out k h; omega; omega⟩)) f.bare).2.1)⟩)
     have ONE := Lib.hid (Rd.one_cells _ _ HXE.out)
     have ZA := Lib.hid (RX.out.alloc (.cells #[.int .i64 k, .int .i64 0, .slice A4 ns.length d4, .slice A7 l.bare.len d7, .slice Ab f.bare.len cb] 34)).row
     have SZ := Lib.hid (show w.heap.size ≤ (wr.alloc (.cells #[.int .i64 k, .int .i64 0, .slice A4 ns.length d4, .slice A7 l.bare.len d7, .slice Ab f.bare.len cb] 34)).heap.size from Nat.le_trans BWi.out.size (Nat.le_of_lt (al_lt wr _)))
     clear hk hlk
     go_wp2_with (first
      |(at_builtin; refine wpList_append_stat rfl (.tmp 47) (.tmp 49) rfl w.heap.size (.slice Ao L.len co) L.len ys ?_ ?_ wr.heap.size ?_ (.int .i64 k) (.int .i64 0) (.slice A4 ns.length d4) (.slice A7 l.bare.len d7) (.slice Ab f.bare.len cb) ?_ ?_ ?_ ?_ ?_; rfl; exact ZA.out; rfl; exact Blk.new wr _ _; exact ONE.out; (have := HLL.out; have := HLT.out; omega); exact SZ.out; intro v11 w11 own11 g11 l11; have R11 := Lib.hid (RX.out.pushed HXE.out rfl own11 g11 l11); have B11 := Lib.hid (grow_below BWi.out BWi.out.size g11 (fun k e => (RX.out.row.lt k e).1)); clear own11 g11 l11))
     refine ⟨⟨i + 1, _, ys ++ (#[.int .i64 k, .int .i64 0, .slice A4 ns.length d4, .slice A7 l.bare.len d7, .slice Ab f.bare.len cb] : Array Value).toList, _, _, rfl, ?_, rfl, rfl, HLT.out, ?_, B11.out⟩, ?_⟩
     ·first | rfl | exact congrArg (Value.int .i64) (wri.trans (by omega))
     ·rw [takeB_step x i _ HY.out, HL2.out]; exact R11.out
     ·have := HLT.out; simp only [intOf]; omega
  ·have hl1 : ¬ (i : Int) < (n : Int) := by omega
   obtain rfl : L = x.bare := by rw [← HL2.out, show i = x.len by rw [← HN.out]; omega]; exact HTK.out
   clear hlt hi
   go_wp2_with fail
   go_ret
   exact ⟨_, rfl, RO.out.reads (fun k hk => Or.inr hk), HB.out⟩
theorem wide_row {w w' : World} {P : Nat → Prop} {l : X} {z : Nat} {v : Value} (h : Sl l.len (Rd w (fun k => P k ∧ k < w'.heap.size) l).row z v) : Sl l.len (Rd w P l).row z v :=
 h.imp (Rd.move (Moves.of_below (Below.refl _ _) (fun k hk _ => hk.1)) l).2.1
theorem own_row {w : World} {P : Nat → Prop} {l : X} {z : Nat} {v : Value} (h : Sl l.len (Rd w P l).row z v) : Sl l.len (Rd w (fun k => P k ∧ k < w.heap.size) l).row z v :=
 h.imp (Rd.move (Moves.of_below (Below.refl _ _) (fun k hk hl => ⟨hk, hl⟩)) l).2.1
theorem BaR.wide {l : X} {z : Nat} {P : Nat → Prop} {w : World} {e : Ending} {w' : World} (h : BaR l z (fun k => P k ∧ k < w.heap.size) w e w') : BaR l z P w e w' := by
 obtain ⟨u, rfl, s, b⟩ := h
 exact ⟨u, rfl, s.imp (Rd.move (Moves.of_below (Below.refl _ _) (fun k hk _ => hk.imp (fun q => q.1) id)) l.bare).2.1, b⟩
theorem rbar_row_e {l : X} (hl : l.fit 100000) (H : ∀ y ∈ l.elems, BarQ y) : RBarE l := fun w P v h => by
 obtain ⟨A, c, rfl⟩ := sl_slice h
 exact (rbar_e w _ l A l.len c (own_row h) (fun _ h => h.2) hl H).mono fun _ _ q => q.wide
theorem rbar_row_s {l : X} (hl : l.fit 100000) (H : ∀ y ∈ l.elems, BarQ y) : RBarS l := fun w P v h => by
 obtain ⟨A, c, rfl⟩ := sl_slice h
 exact (rbar_s w _ l A l.len c (own_row h) (fun _ h => h.2) hl H).mono fun _ _ q => q.wide
theorem rbar_all (x : X) : BarQ x ∧ ∀ y ∈ x.elems, BarQ y :=
 X.all (S := BarQ) (fun _ _ _ _ _ _ f hl hf fit => ⟨rbar_row_e fit.1.1 hl, fun y hy ps b e => by subst e; exact hf _ hy (fit_elems f fit.1.2 _ hy)⟩)
  (fun _ _ hb fit => rbar_row_s fit.1.2 hb) (fun _ _ _ _ b hl hb fit => ⟨rbar_row_e fit.1.2.1 hl, fun y hy m e => by subst e; exact hb _ hy (fit_elems b fit.1.2.2 _ hy)⟩)
  (fun _ hl fit => rbar_row_s fit hl) (fun _ => trivial) (fun _ _ _ => trivial) x
theorem rbar_any {l : X} (hl : l.fit 100000) : RBarS l := rbar_row_s hl (rbar_all l).2
end Go.Proofs.YtbcjpnmakcmndaaGreatDoor
/- The law TreeAsks walked. -/
namespace Go.Proofs.YtbcjpnmakcmndaaGreatDoor
open Go.RowKit PrM
set_option linter.unusedVariables false
set_option linter.unusedSimpArgs false
/-- A script's answer in one form. -/
theorem script_uni (W : World) (s : ByteArray) (hs : s.size ≤ 600) : Calls Tryz.prog 10 #[.string s] W fun e W' => (∃ (A : Option Addr) (n d : Nat) (c a : Int) (M : X), e = .returned (.tuple #[.slice A n d, .int .i64 c, .int .i64 a]) ∧ (c = 0 → M.fit 100000 ∧ Sl M.len (Rd W' (Lo W) M).row 5 (.slice A n d))) ∧ Below W.heap.size W W' := by
 refine (script_any W s (by omega)).mono ?_
 rintro e W' ⟨hm, b⟩
 refine ⟨?_, b⟩
 cases hF : LxM.lex s.data.toList with
 | bad q =>
  rw [hF] at hm
  exact ⟨none, 0, 0, 14, q, .nil, hm, fun h => absurd h (by decide)⟩
 | ok T =>
  rw [hF] at hm
  by_cases h0 : (script T).2.code = 0
  ·obtain ⟨v, rfl, sl⟩ := hm.1 h0
   obtain ⟨A, c, rfl⟩ := sl_slice sl
   have hc := lex_count hF
   have zs : s.data.toList.length = s.size := by simp
   exact ⟨A, _, c, 0, 0, (script T).1, rfl, fun _ => ⟨script_fits hF (by omega), sl⟩⟩
  ·exact ⟨none, 0, 0, (script T).2.code, _, .nil, hm.2 h0, fun h => absurd h h0⟩
theorem bare_self (x : X) : x.bare.same x.bare = true := same_refl _
set_option maxRecDepth 20000 in
set_option maxHeartbeats 4000000 in
theorem asks_walk (w : World) (s t : ByteArray) : Calls Tryz.prog 3 #[.string s, .string t] w fun en w' => en = .returned (.bool true) ∧ Below w.heap.size w w' := by
 have TO := Lib.hid (fun W => told_any W)
 by_cases hs : s.size ≤ 600
 ·have i1 : (s.size : Int) ≤ 600 := by omega
  have d1 : decide (600 < s.size) = false := decide_eq_false (by omega)
  by_cases ht : t.size ≤ 600
  ·have SA := Lib.hid (script_uni w s hs)
   have SB := Lib.hid (fun W => script_uni W t ht)
   have i2 : (t.size : Int) ≤ 600 := by omega
   have d2 : decide (600 < t.size) = false := decide_eq_false (by omega)
   clear hs ht
   go_enter Tryz.func3, Tryz.ntmps3
   go_wp2_with fail
   go_at_call 10
   refine SA.out.mono ?_
   rintro en w1 ⟨⟨A, n, d, c, a, M, rfl, hm⟩, b1⟩
   have B1 := Lib.hid b1
   have HM := Lib.hid hm
   clear b1 hm
   go_wp2_with fail
   go_at_call 10
   refine (SB.out _).mono ?_
   rintro en w2 ⟨⟨B, m, g, c2, a2, N, rfl, hn⟩, b2⟩
   have B2 := Lib.hid b2
   have HN := Lib.hid hn
   clear b2 hn
   have X2 := Lib.hid (B1.out.trans (B2.out.mono B1.out.size))
   by_cases e1 : c = 0
   ·by_cases e2 : c2 = 0
    ·obtain ⟨fm, sm⟩ := HM.out e1
     obtain ⟨fn, sn⟩ := HN.out e2
     subst e1 e2
     have sm := Sl.bel B2.out sm
     have FM := Lib.hid fm
     have SM := Lib.hid sm
     have S1 := Lib.hid (fun W (b : Below w2.heap.size w2 W) => same_any fm fn (Sl.bel b sm) (Sl.bel b sn))
     have R1 := Lib.hid (fun W (b : Below w2.heap.size w2 W) => rsam_any fm N W _ _ _ _ fn (Sl.bel b sm) (Sl.bel b sn))
     have S2 := Lib.hid (fun W (b : Below w2.heap.size w2 W) => same_any fm fm (Sl.bel b sm) (Sl.bel b sm))
     have BA := Lib.hid (fun W (b : Below w2.heap.size w2 W) => bare_any fm (Sl.bel b sm))
     have BR := Lib.hid (fun W (b : Below w2.heap.size w2 W) => rbar_any fm W _ _ (Sl.bel b sm))
     have CA := Lib.hid (fun W (b : Below w2.heap.size w2 W) => count_any fm (Sl.bel b sm))
     have CB := Lib.hid (fun W (b : Below w2.heap.size w2 W) => rcnt_any fm W _ _ (Sl.bel b sm))
     have DA := Lib.hid (fun W (b : Below w2.heap.size w2 W) => tdeep_any fm (Sl.bel b sm))
     have DB := Lib.hid (fun W (b : Below w2.heap.size w2 W) => rdep_any fm W _ _ (Sl.bel b sm))
     obtain ⟨q, hq⟩ : ∃ q, M.same N = q := ⟨_, rfl⟩
     obtain ⟨cx, hcx⟩ : ∃ cx, wrap64 M.count = cx := ⟨_, rfl⟩
     obtain ⟨dx, hdx⟩ : ∃ dx, (X.blk M).deep = dx := ⟨_, rfl⟩
     have hdy : (if M.len = 0 then 0 else wrap64 (1 + M.deep)) = dx := hdx
     unfold SR at S1 R1 S2
     unfold ES at BA
     unfold BaR at BR
     unfold CR at CA CB
     unfold DR at DA DB
     rw [hq] at S1 R1
     rw [same_refl] at S2
     rw [hcx] at CA CB
     rw [hdx] at DA
     rw [hdy] at DB
     clear hq hcx hdx hdy fm fn sm sn
     go_wp2_with (first
      |(go_at_call 9; refine (TO.out _).mono ?_; rintro en w3 ⟨rfl, b⟩; have Y3 := Lib.hid b; clear b)
      |(go_at_call 11; (with_reducible refine (S1.out _ Y3.out).mono ?_); rintro en w4 ⟨rfl, b⟩; have Y4 := Lib.hid (Y3.out.trans (b.mono Y3.out.size)); clear b)
      |(go_at_call 12; (with_reducible refine (R1.out _ Y4.out).mono ?_); rintro en w5 ⟨rfl, b⟩; have Y5 := Lib.hid (Y4.out.trans (b.mono Y4.out.size)); clear b)
      |(go_at_call 11; (with_reducible refine (S2.out _ Y5.out).mono ?_); rintro en w6 ⟨rfl, b⟩; have Y6 := Lib.hid (Y5.out.trans (b.mono Y5.out.size)); clear b)
      |(go_at_call 13; (with_reducible refine (BA.out _ Y6.out).mono ?_); rintro en w7 ⟨v7, rfl, s7, b⟩; obtain ⟨A7, c7, rfl⟩ := sl_slice s7; have S7 := Lib.hid s7; have Y7 := Lib.hid (Y6.out.trans (b.mono Y6.out.size)); clear s7 b)
      |(go_at_call 14; (with_reducible refine (BR.out _ Y7.out).mono ?_); rintro en w8 ⟨v8, rfl, s8, b⟩; obtain ⟨A8, c8, rfl⟩ := sl_slice s8; have Y8 := Lib.hid (Y7.out.trans (b.mono Y7.out.size)); have R2 := Lib.hid (rsam_any (X.fit_bare _ FM.out) M.bare w8 _ _ _ _ (X.fit_bare _ FM.out) (Sl.bel b S7.out) s8); unfold SR at R2; rw [bare_self] at R2; clear s8 b)
      |(go_at_call 12; (with_reducible refine R2.out.mono ?_); rintro en w9 ⟨rfl, b⟩; have Y9 := Lib.hid (Y8.out.trans (b.mono Y8.out.size)); clear b)
      |(go_at_call 15; (with_reducible refine (CA.out _ Y9.out).mono ?_); rintro en w10 ⟨rfl, b⟩; have Y10 := Lib.hid (Y9.out.trans (b.mono Y9.out.size)); clear b)
      |(go_at_call 16; (with_reducible refine (CB.out _ Y10.out).mono ?_); rintro en w11 ⟨rfl, b⟩; have Y11 := Lib.hid (Y10.out.trans (b.mono Y10.out.size)); clear b)
      |(go_at_call 17; (with_reducible refine (DA.out _ Y11.out).mono ?_); rintro en w12 ⟨rfl, b⟩; have Y12 := Lib.hid (Y11.out.trans (b.mono Y11.out.size)); clear b)
      |(go_at_call 18; (with_reducible refine (DB.out _ Y12.out).mono ?_); rintro en w13 ⟨rfl, b⟩; have Y13 := Lib.hid (Y12.out.trans (b.mono Y12.out.size)); clear b))
     go_ret
     exact ⟨rfl, X2.out.trans (Y13.out.mono X2.out.size)⟩
    ·have f0 : (c == 0) = true := by simpa using e1
     have f1 : (c2 == 0) = false := by simpa using e2
     have f2 : (c2 != 0) = true := by simpa using e2
     subst e1
     clear e2
     go_wp2_with (first
      |(go_at_call 9; refine (TO.out _).mono ?_; rintro en w3 ⟨rfl, b⟩; have Y3 := Lib.hid b; clear b))
     go_ret
     exact ⟨rfl, X2.out.trans (Y3.out.mono X2.out.size)⟩
   ·have f1 : (c == 0) = false := by simpa using e1
    have f2 : (c != 0) = true := by simpa using e1
    clear e1
    go_wp2_with (first
     |(go_at_call 9; refine (TO.out _).mono ?_; rintro en w3 ⟨rfl, b⟩; have Y3 := Lib.hid b; clear b))
    go_ret
    exact ⟨rfl, X2.out.trans (Y3.out.mono X2.out.size)⟩
  ·have i2 : (600 : Int) < (t.size : Int) := by omega
   have d2 : decide (600 < t.size) = true := decide_eq_true (by omega)
   clear hs ht
   go_enter Tryz.func3, Tryz.ntmps3
   go_wp2_with (first
    |(go_at_call 9; refine (TO.out _).mono ?_; rintro en w3 ⟨rfl, b⟩; have Y3 := Lib.hid b; clear b))
   go_ret
   exact ⟨rfl, Y3.out⟩
 ·have i1 : (600 : Int) < (s.size : Int) := by omega
  have d1 : decide (600 < s.size) = true := decide_eq_true (by omega)
  clear hs
  go_enter Tryz.func3, Tryz.ntmps3
  go_wp2_with (first
   |(go_at_call 9; refine (TO.out _).mono ?_; rintro en w3 ⟨rfl, b⟩; have Y3 := Lib.hid b; clear b))
  go_ret
  exact ⟨rfl, Y3.out⟩
end Go.Proofs.YtbcjpnmakcmndaaGreatDoor
