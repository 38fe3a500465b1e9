/- The law ScopeOuter's own functions: within, funcs (printed by gensdi.py). -/
import Derived.Test.YteakhlnnepjhpaaSdHx
import Derived.Test.YteakhlnnepjhpaaTkBx
import Derived.Deep.RegionHeld3
import Derived.Deep.CutRange
namespace Go.Proofs.Yteakhlnnepjhpaa
open Go.RowKit PrM
set_option linter.unusedVariables false
set_option linter.unusedSimpArgs false
theorem FO.drew {w : World} {B : Nat} {P : Nat → Prop} {v : Value} {l : List (List ByteArray × X)} (h : FO w B P v l) : FO w.drew B P v l := by
 obtain ⟨cs, h1, h2⟩ := h
 exact ⟨cs, h1, Fl.move (w := w) (w' := w.drew) (P := P) ⟨Nat.le_refl _, fun _ _ _ => rfl, fun _ h _ => h⟩ h2⟩
theorem FO.one {w : World} {P : Nat → Prop} {u0 u1 : Value} {p : List ByteArray × X} (h : Fv w P u0 u1 p) (hP : ∀ q, P q → q < w.heap.size) : FO (w.alloc (.cells #[u0, u1] 36)) w.heap.size P (.slice (some ⟨w.heap.size, 0, none⟩) 1 1) [p] := by
 have b : Below w.heap.size w (w.alloc (.cells #[u0, u1] 36)) := (Below.refl _ w).alloc (Nat.le_refl _) _
 refine ⟨[u0, u1], ⟨rfl, .inr ⟨w.heap.size, 1, #[u0, u1], rfl, Nat.le_refl _, Blk.new w _ _, Nat.le_refl _, (by unfold maxLen; omega), rfl, rfl⟩⟩, u0, u1, [], rfl, h.move ⟨b.size, fun q hq _ => World.cell?_of_block (b.block _ (hP _ hq)), fun _ h _ => h⟩, rfl⟩
theorem FO.grown {w w' : World} {B2 : Nat} {P : Nat → Prop} {u : Value} {m : List (List ByteArray × X)} {r : Option Nat} {B : Nat} (h : FO w B2 P u m) (g : w.grownBy w' r) (b : Below B w w') (hP : ∀ q, P q → q < B) (hr : ∀ q, r = some q → q < B2) : FO w' B2 P u m := by
 obtain ⟨cs, h1, h2⟩ := h
 exact ⟨cs, own_same h1 fun q e => g.block q (own_lt h1 q e).2 (fun x => by have := (own_lt h1 q e).1; have := hr q x.symm; omega), h2.move ⟨b.size, fun p hp _ => World.cell?_of_block (b.block _ (hP _ hp)), fun _ h _ => h⟩⟩
theorem FO.own {w : World} {B : Nat} {P : Nat → Prop} {v : Value} {l : List (List ByteArray × X)} (h : FO w B P v l) (q : Nat) (e : v.ownBlock = some q) : B ≤ q ∧ q < w.heap.size := by
 obtain ⟨cs, h1, -⟩ := h
 exact own_lt h1 q e
theorem wpList_append_fs {w : World} {ops : Array Oper} {rest : List Oper} {o : Oper} {a : Act} {Q : Exit → Act → World → Prop} (hgd : o.guard = none) (s x : Operand)
  (ho : o.op = .call { callee := .builtin .append, args := #[s, x], argTypes := #[30, 30] })
  (B B2 : Nat) (P : Nat → Prop) (v u : Value) (l m : List (List ByteArray × X)) (hs : a.eval s = v) (hx : a.eval x = u) (hv : FO w B P v l) (hu : FO w B2 P u m) (hP : ∀ q, P q → q < B) (hl : l.length + m.length ≤ 1000000000000) (hb : B ≤ w.heap.size)
  (h : ∀ v' w', FO w' B P v' (l ++ m) → Below B w w' → w.grownBy w' v.ownBlock → wpList Try.prog ops Q rest (a.put o.dst v') w') :
  wpList Try.prog ops Q (o :: rest) a w := by
 refine wpList_plain hgd fun K hK => ?_
 obtain ⟨v', w', hr, h2, h3, h5⟩ := run_append_fs w o.type B B2 P v u l m hv hu hP hl hb
 unfold Oper.wp execOp
 simp only [ho, resolve, invoke, builtin, Sem.run_bind, Sem.run_pure, Result.andThen_ok, List.map_toArray, List.map_cons, List.map_nil, hs, hx, hr]
 exact hK _ _ (h v' w' h2 h3 h5)
theorem step_append_fs {w : World} {ops : Array Oper} {o : Oper} {a : Act} {K : Act → World → Prop} {Q : Exit → Act → World → Prop} {E : Prop} (hgd : o.guard = none) (s x : Operand)
  (ho : o.op = .call { callee := .builtin .append, args := #[s, x], argTypes := #[30, 30] })
  (B B2 : Nat) (P : Nat → Prop) (v u : Value) (l m : List (List ByteArray × X)) (hs : a.eval s = v) (hx : a.eval x = u) (hv : FO w B P v l) (hu : FO w B2 P u m) (hP : ∀ q, P q → q < B) (hl : l.length + m.length ≤ 1000000000000) (hb : B ≤ w.heap.size)
  (h : ∀ v' w', FO w' B P v' (l ++ m) → Below B w w' → w.grownBy w' v.ownBlock → K (a.put o.dst v') w') :
  if Region.wanted o (yielded ops a.tmps) = true then Oper.wp Try.prog o a w K Q else E := by
 have hw : Region.wanted o (yielded ops a.tmps) = true := by simp [Region.wanted, hgd]
 rw [if_pos hw]
 obtain ⟨v', w', hr, h2, h3, h5⟩ := run_append_fs w o.type B B2 P v u l m hv hu hP hl hb
 unfold Oper.wp
 simp [execOp, ho, resolve, invoke, builtin, hs, hx, hr, Result.andThen]
 exact h v' w' h2 h3 h5
/-- What they answer. -/
def FR (w : World) (P : Nat → Prop) (l : List (List ByteArray × X)) (e : Ending) (w' : World) : Prop := (∃ v, e = .returned v ∧ FO w' w.heap.size P v l) ∧ Below w.heap.size w w'
def WI (x : X) : Prop := ∀ (w : World) (P : Nat → Prop) (v : Value), Sl x.len (Rd w P x).row 7 v → (∀ q, P q → q < w.heap.size) → Calls Try.prog 22 #[v] w (FR w P (fns x).2)
def FU (x : X) : Prop := ∀ (w : World) (P : Nat → Prop) (v : Value), Sl x.len (Rd w P x).row 5 v → (∀ q, P q → q < w.heap.size) → Calls Try.prog 11 #[v] w (FR w P (fns x).2)
def FQ (x : X) : Prop := x.fit 100000 → ScM.sz x ≤ 900000000000 → match x with
 | .e _ _ _ _ _ l f => WI l ∧ ∀ y ∈ f.elems, ∀ ps b, y = .f ps b → FU b
 | .f _ b => FU b
 | .s _ _ _ l b => WI l ∧ ∀ y ∈ b.elems, ∀ m, y = .blk m → FU m
 | .blk m => FU m
 | _ => True
theorem fnsI_fit {x y : X} {i : Nat} (h : x.elems[i]? = some y) : (fnsI x i).length + ScM.sz y ≤ ScM.sz x := by
 have := fnsI_len x i
 have t := ScM.tot_succ (f := ScM.sz) h
 have := ScM.tot_le ScM.sz x.elems (i + 1)
 have := ScM.sum_sz x
 omega
theorem sz_el {x : X} {n : Nat} (h : ScM.sz x ≤ n) : ∀ y ∈ x.elems, ScM.sz y ≤ n := fun y hy => by
 obtain ⟨i, hi, rfl⟩ := List.mem_iff_getElem.1 hy
 have := fnsI_fit (List.getElem?_eq_getElem hi)
 omega
theorem cb {w W : World} {a : Addr} {u : Value} (h : w.cell? a = some u) (b : Below w.heap.size w W) : W.cell? a = some u := (World.cell?_of_block (b.block _ (World.block_lt_of_cell? _ _ h))).trans h
theorem fo_end {w : World} {B : Nat} {P : Nat → Prop} {v : Value} {l m : List (List ByteArray × X)} (h : FO w B P v l) (e : l = m) : FO w B P v m := e ▸ h
theorem al_lt0 (wr wa : World) {o : Obj} (h : wr.drew.alloc o = wa) : wr.heap.size < wa.heap.size := by
 rw [← h, World.size_alloc]
 exact Nat.lt_succ_self _
set_option maxRecDepth 20000 in
set_option maxHeartbeats 4000000 in
theorem within_row {x : X} (hf : x.fit 100000) (hz : ScM.sz x ≤ 900000000000) (H : ∀ y ∈ x.elems, FQ y) : WI x := by
 intro w P v h hP
 obtain ⟨A, c, rfl⟩ : ∃ A c, v = .slice A x.len c := by obtain ⟨A, c, e, -⟩ := h; exact ⟨A, c, e⟩
 obtain ⟨n, hn⟩ : ∃ n, x.len = n := ⟨_, rfl⟩
 rw [show (Value.slice A x.len c) = .slice A n c by rw [hn]] at h ⊢
 have HX := Lib.hid h
 have HQ := Lib.hid (fun y hy => H y hy (fit_el x hf y hy) (sz_el hz y hy))
 have HF := Lib.hid hf
 have HZ := Lib.hid hz
 have HN := Lib.hid hn
 have HP := Lib.hid hP
 have hl := X.fit_len x hf
 rw [hn] at hl
 have n0 : (0 : Int) ≤ (n : Int) := by omega
 have n1 : (n : Int) ≤ 100000 := by omega
 clear h H hf hn hP hl hz
 go_enter Try.func22, Try.ntmps22
 go_wp2_with fail
 go_loopw [3, 4, 5] (fun u3 u4 u5 wr => ∃ (i : Nat) (o v : Value), u3 = o ∧ u4 = .int .i64 (i : Int) ∧ u5 = v ∧ i ≤ n ∧ FO wr w.heap.size P o (fnsI x i) ∧ Below w.heap.size w wr) (fun _ u4 _ _ => (n : Int).toNat - (intOf u4).toNat)
 case atStart => exact ⟨0, _, undef, rfl, rfl, rfl, Nat.zero_le _, FO.nil _ _ _, Below.refl _ _⟩
 case round =>
  obtain ⟨i, o, v, rfl, rfl, rfl, hi, hfo, hb⟩ := hrel
  have FO1 := Lib.hid hfo
  have BL := Lib.hid hb
  have i0 : (0 : Int) ≤ (i : Int) := by omega
  have wri : wrap64 ((i : Int) + 1) = (i : Int) + 1 := by unfold wrap64; omega
  clear hfo hb
  by_cases hlt : i < n
  ·obtain ⟨wo, hwo⟩ : ∃ wo, wo = wr := ⟨_, rfl⟩
   subst hwo
   obtain ⟨p, y, v0, v1, v2, v3, v4, v5, v6, rfl, hy, ⟨c0, c1, c2, c3, c4, c5, c6⟩, rd⟩ := Sl.at7 HX.out (by rw [HN.out]; exact hlt)
   obtain ⟨k, a, m, sv, op, l, f, w5, w6, rfl, he, sl, sr⟩ := Rd.is_e rd rfl
   simp only [Array.mk.injEq, List.cons.injEq, and_true] at he
   obtain ⟨rfl, rfl, rfl, rfl, rfl, rfl, rfl⟩ := he
   obtain ⟨A5, d5, rfl⟩ : ∃ A c, v5 = .slice A l.len c := by obtain ⟨A, c, e, -⟩ := sl; exact ⟨A, c, e⟩
   obtain ⟨A6, d6, rfl⟩ : ∃ A c, v6 = .slice A f.len c := by obtain ⟨A, c, e, -⟩ := sr; exact ⟨A, c, e⟩
   have C6 := Lib.hid c6
   have t5 := cb c5 BL.out
   have SR := Lib.hid sr
   clear c0 c1 c2 c3 c4 c5 c6 sr
   have LT := Lib.hid hlt
   have hl1 : (i : Int) < (n : Int) := by omega
   have HY := Lib.hid hy
   have SLK := Lib.hid (fun (W : World) (k : Below w.heap.size w W) => (Sl.bel k HX.out))
   have QQ := HQ.out _ (List.mem_of_getElem? hy)
   have C1 := Lib.hid (QQ.1 wo P _ (sl.bel BL.out) (fun q hq => Nat.lt_of_lt_of_le (HP.out q hq) BL.out.size))
   have QF := Lib.hid QQ.2
   have FI := Lib.hid (show (fnsI x i).length + (1 + ScM.sz l + ScM.sz f) ≤ 900000000000 by have := fnsI_fit hy; simp only [ScM.sz] at this; have := HZ.out; omega)
   have FL := Lib.hid (fns_len l).2
   have FM := Lib.hid (fit_el x HF.out _ (List.mem_of_getElem? hy))
   clear rd sl hlt hi hy QQ
   go_wp2_with (first
    |(go_at_call 22; refine C1.out.mono ?_; rintro e w5 ⟨⟨u, rfl, h5⟩, b5⟩; have F5 := Lib.hid h5; have B5 := Lib.hid (BL.out.trans (b5.mono BL.out.size)); have FO5 := Lib.hid (FO1.out.keep b5 HP.out BL.out.size); clear h5 b5)
    |(refine wpList_append_fs rfl (.tmp 12) (.tmp 18) rfl w.heap.size _ P _ _ (fnsI x i) (fns l).2 rfl rfl FO5.out F5.out HP.out (by have := FI.out; have := FL.out; omega) B5.out.size ?_; intro v6 w6 h6 b6 g6; have FO6 := Lib.hid h6; have B6 := Lib.hid (B5.out.trans b6); clear h6 b6 g6; clear t5))
   obtain ⟨mf, hmf⟩ : ∃ mf, f.len = mf := ⟨_, rfl⟩
   have HM := Lib.hid hmf
   have fl := X.fit_len f FM.out.1.2
   rw [hmf] at fl
   have m0 : (0 : Int) ≤ (mf : Int) := by omega
   have m1 : (mf : Int) ≤ 100000 := by omega
   clear hmf fl
   go_loopw [3, 5] (fun u3 u5 wr2 => ∃ (j : Nat) (o : Value), u3 = o ∧ u5 = .int .i64 (j : Int) ∧ j ≤ mf ∧ FO wr2 w.heap.size P o (fnsI x i ++ (fns l).2 ++ fnsI f j) ∧ Below w.heap.size w wr2) (fun _ u5 _ => (mf : Int).toNat - (intOf u5).toNat)
   case atStart => exact ⟨0, _, rfl, rfl, Nat.zero_le _, fo_end FO6.out (by rw [fnsI_zero, List.append_nil]), B6.out⟩
   case round =>
    obtain ⟨j, o, rfl, rfl, hj, hfo, hb⟩ := hrel
    have FO7 := Lib.hid hfo
    have B7 := Lib.hid hb
    have j0 : (0 : Int) ≤ (j : Int) := by omega
    have wrj : wrap64 ((j : Int) + 1) = (j : Int) + 1 := by unfold wrap64; omega
    clear hfo hb
    have t6 := cb C6.out B7.out
    rw [HM.out] at t6
    by_cases hltj : j < mf
    ·have hl2 : (j : Int) < (mf : Int) := by omega
     have LTJ := Lib.hid hltj
     obtain ⟨q, y2, b0, b1, rfl, hy2, ⟨cc0, cc1⟩, rd2⟩ := Sl.at2 SR.out (by rw [HM.out]; exact hltj)
     obtain ⟨ps, bd, z0, z1, rfl, he, sn, sb⟩ := Rd.is_f rd2 rfl
     simp only [Array.mk.injEq, List.cons.injEq, and_true] at he
     obtain ⟨rfl, rfl⟩ := he
     obtain ⟨A9, d9, rfl⟩ : ∃ A c, b0 = .slice A ps.length c := by obtain ⟨A, c, e, -⟩ := sn; exact ⟨A, c, e⟩
     obtain ⟨A0, d0, rfl⟩ : ∃ A c, b1 = .slice A bd.len c := by obtain ⟨A, c, e, -⟩ := sb; exact ⟨A, c, e⟩
     have UB := QF.out _ (List.mem_of_getElem? hy2) ps bd rfl
     have C6M := C6.out
     rw [HM.out] at C6M
     have KB := Lib.hid (fun (W : World) (b : Below w.heap.size w W) => (⟨cb C6M b, cb cc0 b, cb cc1 b⟩ : W.cell? ⟨(p.add (i * 7)).block, (p.add (i * 7)).off + 6, none⟩ = some (.slice (some q) mf d6) ∧ W.cell? (q.add (j * 2)) = some (.slice A9 ps.length d9) ∧ W.cell? ⟨(q.add (j * 2)).block, (q.add (j * 2)).off + 1, none⟩ = some (.slice A0 bd.len d0)))
     have FV := Lib.hid (fun (W : World) (b : Below w.heap.size w W) => show Fv W P (.slice A9 ps.length d9) (.slice A0 bd.len d0) (ps, bd) from ⟨sn.bel b, sb.bel b⟩)
     have HPW := Lib.hid (fun (W : World) (b : Below w.heap.size w W) (q : Nat) (hq : P q) => Nat.lt_of_lt_of_le (HP.out q hq) b.size)
     have UC := Lib.hid (fun (W : World) (b : Below w.heap.size w W) => UB W P _ (sb.bel b) (HPW.out W b))
     have FJ := Lib.hid (fnsI_succ hy2)
     have FJL := fnsI_le f (j + 1)
     rw [FJ.out, List.length_append, show (fns (.f ps bd)).1 = (ps, bd) :: (fns bd).2 from rfl, List.length_cons] at FJL
     obtain ⟨L0, hL0⟩ : ∃ L0, fnsI x i ++ (fns l).2 ++ fnsI f j = L0 := ⟨_, rfl⟩
     have LN := Lib.hid (show L0.length + 1 + (fns bd).2.length ≤ 1000000000000 by rw [← hL0, List.length_append, List.length_append]; have := FI.out; have := FL.out; omega)
     have HL0 := Lib.hid hL0
     have B8 := Lib.hid (B7.out.drew)
     rw [hL0] at FO7
     clear rd2 sn sb hltj hj cc0 cc1 C6M UB FJL hL0 hy2
     go_upto_region 9 with fail
     refine wp_region_held_drew (S := fun W => Below w.heap.size w W) (by kernel_rfl) B8.out (fun _ => ?_)
     refine tkB 0 B8.out ?_
     refine tkB 1 B8.out ?_
     refine tkB 2 B8.out ?_
     refine tkB 3 B8.out ?_
     refine tkB 4 B8.out ?_
     refine tkB 5 B8.out ?_
     refine tkB 6 B8.out ?_
     refine tkB 7 B8.out ?_
     refine tkB 8 B8.out ?_
     refine tkB 11 B8.out ?_
     refine tkB 12 B8.out ?_
     refine tkB 13 B8.out ?_
     refine tkB 14 B8.out ?_
     refine tkB 15 B8.out ?_
     refine tkB 16 B8.out ?_
     refine tkB 17 B8.out ?_
     refine tkB 18 B8.out ?_
     refine tkB 19 B8.out ?_
     refine wpAnyH_ready (rs := [9]) (by kernel_rfl) (by simp) ?_
     refine rdB (fun K hK => ?_) AllReadyH.nil
     rw [if_pos (by rfl)]
     go_wp2_with fail
     have FS := (FO.one (FV.out _ B7.out) (HPW.out _ B7.out)).drew
     have BA := (B7.out.alloc B7.out.size (.cells #[.slice A9 ps.length d9, .slice A0 bd.len d0] 36)).drew
     have AL := (Below.refl _ wr).alloc (Nat.le_refl _) (.cells #[.slice A9 ps.length d9, .slice A0 bd.len d0] 36)
     have FA := (FO7.out.keep AL HP.out B7.out.size).drew
     obtain ⟨wa, hwa⟩ : ∃ wa, (wr.alloc (.cells #[.slice A9 ps.length d9, .slice A0 bd.len d0] 36)).drew = wa := ⟨_, rfl⟩
     rw [hwa] at FS BA FA ⊢
     have FS := Lib.hid FS
     have BA := Lib.hid BA
     have FA := Lib.hid FA
     clear AL hwa
     refine hK.out _ _ BA.out (fun _ => ?_)
     clear hK K
     try simp only [Act.put, List.setIfInBounds_toArray, List.set_cons_zero, List.set_cons_succ]
     refine wpAnyH_ready (rs := [10]) (by kernel_rfl) (by simp) ?_
     refine rdB (fun K hK => ?_) AllReadyH.nil
     refine step_append_fs rfl (.tmp 30) (.tmp 39) rfl w.heap.size wr.heap.size P _ _ L0 [(ps, bd)] rfl rfl FA.out FS.out HP.out (by have := LN.out; simp only [List.length_cons, List.length_nil]; omega) BA.out.size ?_
     intro v1 w1 h1 b1 g1
     have F1 := Lib.hid h1
     have S1 := Lib.hid (BA.out.trans b1)
     clear h1 b1 g1
     refine hK.out _ _ S1.out (fun _ => ?_)
     clear hK K
     try simp only [Act.put, List.setIfInBounds_toArray, List.set_cons_zero, List.set_cons_succ]
     refine wpAnyH_ready (rs := [20]) (by kernel_rfl) (by simp) ?_
     refine rdB (fun K hK => ?_) AllReadyH.nil
     rw [if_pos (by rfl)]
     go_wp2_with (go_at_call 11; refine (UC.out _ S1.out).mono ?_; rintro e w2 ⟨⟨u, rfl, h2⟩, b2⟩; have FU2 := Lib.hid h2; have S2 := Lib.hid (S1.out.trans (b2.mono S1.out.size)); have F2 := Lib.hid (F1.out.keep b2 HP.out S1.out.size); have B2 := Lib.hid b2; clear h2 b2)
     refine hK.out _ _ S2.out (fun _ => ?_)
     clear hK K
     try simp only [Act.put, List.setIfInBounds_toArray, List.set_cons_zero, List.set_cons_succ]
     refine wpAnyH_ready (rs := [21]) (by kernel_rfl) (by simp) ?_
     refine rdB (fun K hK => ?_) AllReadyH.nil
     refine step_append_fs rfl (.tmp 40) (.tmp 50) rfl w.heap.size _ P _ _ (L0 ++ [(ps, bd)]) (fns bd).2 rfl rfl F2.out FU2.out HP.out (by have := LN.out; rw [List.length_append]; simp only [List.length_cons, List.length_nil]; omega) S2.out.size ?_
     intro v5 w5 h5 b5 g5
     have F5 := Lib.hid h5
     have S5 := Lib.hid (S2.out.trans b5)
     clear h5 b5 g5
     refine hK.out _ _ S5.out (fun _ => ?_)
     clear hK K
     try simp only [Act.put, List.setIfInBounds_toArray, List.set_cons_zero, List.set_cons_succ]
     refine tkB 22 S5.out ?_
     refine wpAnyH_done (by kernel_rfl) ?_ _
     go_wp2_with fail
     refine ⟨⟨j + 1, _, rfl, ?_, LTJ.out, fo_end F5.out (by rw [FJ.out, ← HL0.out]; simp only [List.append_assoc, List.cons_append, List.nil_append, fns]), S5.out⟩, ?_⟩
     ·first | rfl | exact congrArg (Value.int .i64) (wrj.trans (by omega))
     ·have := LTJ.out; simp only [intOf]; omega
    ·have hl2 : ¬ (j : Int) < (mf : Int) := by omega
     have KQ := Lib.hid (show FO wr w.heap.size P _ (fnsI x (i + 1)) from fo_end FO7.out (by rw [fnsI_succ HY.out, List.append_assoc]; show _ = _ ++ ((fns l).2 ++ (fns f).2); rw [fnsI_end (x := f) (i := j) (by rw [HM.out]; omega)]))
     clear hltj hj
     go_wp2_with fail
     refine ⟨⟨i + 1, _, _, rfl, ?_, rfl, LT.out, KQ.out, B7.out⟩, ?_⟩
     ·first | rfl | exact congrArg (Value.int .i64) (by omega)
     ·have := LT.out; simp only [intOf]; omega
  ·have hl1 : ¬ (i : Int) < (n : Int) := by omega
   have KQ := Lib.hid (show FO wr w.heap.size P _ (fns x).2 from fo_end FO1.out (fnsI_end (by rw [HN.out]; omega)))
   clear hlt hi
   go_wp2_with fail
   go_ret
   exact ⟨⟨_, rfl, KQ.out⟩, BL.out⟩
set_option maxRecDepth 20000 in
set_option maxHeartbeats 4000000 in
theorem funcs_row {x : X} (hf : x.fit 100000) (hz : ScM.sz x ≤ 900000000000) (H : ∀ y ∈ x.elems, FQ y) : FU x := by
 intro w P v h hP
 obtain ⟨A, c, rfl⟩ : ∃ A c, v = .slice A x.len c := by obtain ⟨A, c, e, -⟩ := h; exact ⟨A, c, e⟩
 obtain ⟨n, hn⟩ : ∃ n, x.len = n := ⟨_, rfl⟩
 rw [show (Value.slice A x.len c) = .slice A n c by rw [hn]] at h ⊢
 have HX := Lib.hid h
 have HQ := Lib.hid (fun y hy => H y hy (fit_el x hf y hy) (sz_el hz y hy))
 have HF := Lib.hid hf
 have HZ := Lib.hid hz
 have HN := Lib.hid hn
 have HP := Lib.hid hP
 have hl := X.fit_len x hf
 rw [hn] at hl
 have n0 : (0 : Int) ≤ (n : Int) := by omega
 have n1 : (n : Int) ≤ 100000 := by omega
 clear h H hf hn hP hl hz
 go_enter Try.func11, Try.ntmps11
 go_wp2_with fail
 go_loopw [3, 4, 5] (fun u3 u4 u5 wr => ∃ (i : Nat) (o v : Value), u3 = o ∧ u4 = .int .i64 (i : Int) ∧ u5 = v ∧ i ≤ n ∧ FO wr w.heap.size P o (fnsI x i) ∧ Below w.heap.size w wr) (fun _ u4 _ _ => (n : Int).toNat - (intOf u4).toNat)
 case atStart => exact ⟨0, _, undef, rfl, rfl, rfl, Nat.zero_le _, FO.nil _ _ _, Below.refl _ _⟩
 case round =>
  obtain ⟨i, o, v, rfl, rfl, rfl, hi, hfo, hb⟩ := hrel
  have FO1 := Lib.hid hfo
  have BL := Lib.hid hb
  have i0 : (0 : Int) ≤ (i : Int) := by omega
  have wri : wrap64 ((i : Int) + 1) = (i : Int) + 1 := by unfold wrap64; omega
  clear hfo hb
  by_cases hlt : i < n
  ·obtain ⟨wo, hwo⟩ : ∃ wo, wo = wr := ⟨_, rfl⟩
   subst hwo
   obtain ⟨p, y, v0, v1, v2, v3, v4, rfl, hy, ⟨c0, c1, c2, c3, c4⟩, rd⟩ := Sl.at5 HX.out (by rw [HN.out]; exact hlt)
   obtain ⟨k, a, ns, l, f, w2, w3, w4, rfl, he, sn, sl, sr⟩ := Rd.is_s rd rfl
   simp only [Array.mk.injEq, List.cons.injEq, and_true] at he
   obtain ⟨rfl, rfl, rfl, rfl, rfl⟩ := he
   obtain ⟨A5, d5, rfl⟩ : ∃ A c, v3 = .slice A l.len c := by obtain ⟨A, c, e, -⟩ := sl; exact ⟨A, c, e⟩
   obtain ⟨A6, d6, rfl⟩ : ∃ A c, v4 = .slice A f.len c := by obtain ⟨A, c, e, -⟩ := sr; exact ⟨A, c, e⟩
   have C6 := Lib.hid c4
   have t5 := cb c3 BL.out
   have SR := Lib.hid sr
   clear c0 c1 c2 c3 c4 sr sn
   have LT := Lib.hid hlt
   have hl1 : (i : Int) < (n : Int) := by omega
   have HY := Lib.hid hy
   have SLK := Lib.hid (fun (W : World) (k : Below w.heap.size w W) => (Sl.bel k HX.out))
   have QQ := HQ.out _ (List.mem_of_getElem? hy)
   have C1 := Lib.hid (QQ.1 wo P _ (sl.bel BL.out) (fun q hq => Nat.lt_of_lt_of_le (HP.out q hq) BL.out.size))
   have QF := Lib.hid QQ.2
   have FI := Lib.hid (show (fnsI x i).length + (1 + ns.length + ScM.sz l + ScM.sz f) ≤ 900000000000 by have := fnsI_fit hy; simp only [ScM.sz] at this; have := HZ.out; omega)
   have FL := Lib.hid (fns_len l).2
   have FM := Lib.hid (fit_el x HF.out _ (List.mem_of_getElem? hy))
   clear rd sl hlt hi hy QQ
   go_wp2_with (first
    |(go_at_call 22; refine C1.out.mono ?_; rintro e w5 ⟨⟨u, rfl, h5⟩, b5⟩; have F5 := Lib.hid h5; have B5 := Lib.hid (BL.out.trans (b5.mono BL.out.size)); have FO5 := Lib.hid (FO1.out.keep b5 HP.out BL.out.size); clear h5 b5)
    |(refine wpList_append_fs rfl (.tmp 12) (.tmp 18) rfl w.heap.size _ P _ _ (fnsI x i) (fns l).2 rfl rfl FO5.out F5.out HP.out (by have := FI.out; have := FL.out; omega) B5.out.size ?_; intro v6 w6 h6 b6 g6; have FO6 := Lib.hid h6; have B6 := Lib.hid (B5.out.trans b6); clear h6 b6 g6; clear t5))
   obtain ⟨mf, hmf⟩ : ∃ mf, f.len = mf := ⟨_, rfl⟩
   have HM := Lib.hid hmf
   have fl := X.fit_len f FM.out.1.2.2
   rw [hmf] at fl
   have m0 : (0 : Int) ≤ (mf : Int) := by omega
   have m1 : (mf : Int) ≤ 100000 := by omega
   clear hmf fl
   go_loopw [3, 5] (fun u3 u5 wr2 => ∃ (j : Nat) (o : Value), u3 = o ∧ u5 = .int .i64 (j : Int) ∧ j ≤ mf ∧ FO wr2 w.heap.size P o (fnsI x i ++ (fns l).2 ++ fnsI f j) ∧ Below w.heap.size w wr2) (fun _ u5 _ => (mf : Int).toNat - (intOf u5).toNat)
   case atStart => exact ⟨0, _, rfl, rfl, Nat.zero_le _, fo_end FO6.out (by rw [fnsI_zero, List.append_nil]), B6.out⟩
   case round =>
    obtain ⟨j, o, rfl, rfl, hj, hfo, hb⟩ := hrel
    have FO7 := Lib.hid hfo
    have B7 := Lib.hid hb
    have j0 : (0 : Int) ≤ (j : Int) := by omega
    have wrj : wrap64 ((j : Int) + 1) = (j : Int) + 1 := by unfold wrap64; omega
    clear hfo hb
    have t6 := cb C6.out B7.out
    rw [HM.out] at t6
    by_cases hltj : j < mf
    ·have hl2 : (j : Int) < (mf : Int) := by omega
     have LTJ := Lib.hid hltj
     obtain ⟨q, y2, u0, rfl, hy2, cc0, rd2⟩ := Sl.at1 SR.out (by rw [HM.out]; exact hltj)
     rw [Nat.mul_one] at cc0
     obtain ⟨bd, z0, rfl, he, sb⟩ := Rd.is_b rd2 rfl
     simp only [Array.mk.injEq, List.cons.injEq, and_true] at he
     subst he
     obtain ⟨A0, d0, rfl⟩ : ∃ A c, u0 = .slice A bd.len c := by obtain ⟨A, c, e, -⟩ := sb; exact ⟨A, c, e⟩
     have t7 := cb cc0 B7.out
     have D1 := Lib.hid (QF.out _ (List.mem_of_getElem? hy2) bd rfl wr P _ (sb.bel B7.out) (fun q hq => Nat.lt_of_lt_of_le (HP.out q hq) B7.out.size))
     have FJ := Lib.hid (fnsI_succ hy2)
     have FJL := fnsI_le f (j + 1)
     rw [FJ.out, List.length_append, show (fns (.blk bd)).1 = (fns bd).2 from rfl] at FJL
     have LN := Lib.hid (show (fnsI x i ++ (fns l).2 ++ fnsI f j).length + (fns bd).2.length ≤ 1000000000000 by rw [List.length_append, List.length_append]; have := FI.out; have := FL.out; omega)
     clear rd2 sb hltj hj cc0 FJL hy2
     go_wp2_with (first
      |(go_at_call 11; refine D1.out.mono ?_; rintro e w8 ⟨⟨u, rfl, h8⟩, b8⟩; have F8 := Lib.hid h8; have B8 := Lib.hid (B7.out.trans (b8.mono B7.out.size)); have FO8 := Lib.hid (FO7.out.keep b8 HP.out B7.out.size); clear h8 b8 t6 t7)
      |(refine wpList_append_fs rfl (.tmp 30) (.tmp 39) rfl w.heap.size _ P _ _ (fnsI x i ++ (fns l).2 ++ fnsI f j) (fns bd).2 rfl rfl FO8.out F8.out HP.out LN.out B8.out.size ?_; intro v9 w9 h9 b9 g9; have F9 := Lib.hid h9; have B9 := Lib.hid (B8.out.trans b9); clear h9 b9 g9))
     refine ⟨⟨j + 1, _, rfl, ?_, LTJ.out, fo_end F9.out (by rw [FJ.out]; simp only [List.append_assoc, fns]), B9.out⟩, ?_⟩
     ·first | rfl | exact congrArg (Value.int .i64) (wrj.trans (by omega))
     ·have := LTJ.out; simp only [intOf]; omega
    ·have hl2 : ¬ (j : Int) < (mf : Int) := by omega
     have KQ := Lib.hid (show FO wr w.heap.size P _ (fnsI x (i + 1)) from fo_end FO7.out (by rw [fnsI_succ HY.out, List.append_assoc]; show _ = _ ++ ((fns l).2 ++ (fns f).2); rw [fnsI_end (x := f) (i := j) (by rw [HM.out]; omega)]))
     clear hltj hj
     go_wp2_with fail
     refine ⟨⟨i + 1, _, _, rfl, ?_, rfl, LT.out, KQ.out, B7.out⟩, ?_⟩
     ·first | rfl | exact congrArg (Value.int .i64) (by omega)
     ·have := LT.out; simp only [intOf]; omega
  ·have hl1 : ¬ (i : Int) < (n : Int) := by omega
   have KQ := Lib.hid (show FO wr w.heap.size P _ (fns x).2 from fo_end FO1.out (fnsI_end (by rw [HN.out]; omega)))
   clear hlt hi
   go_wp2_with fail
   go_ret
   exact ⟨⟨_, rfl, KQ.out⟩, BL.out⟩
theorem fq_all (x : X) : FQ x ∧ ∀ y ∈ x.elems, FQ y :=
 X.all (S := FQ) (fun k a n s op l f hl hf fit hz => ⟨within_row fit.1.1 (by simp only [ScM.sz] at hz; omega) hl, fun y hy ps b e => by subst e; exact hf _ hy (fit_el f fit.1.2 _ hy) (sz_el (by simp only [ScM.sz] at hz; omega) _ hy)⟩)
  (fun ps b hb fit hz => funcs_row fit.1.2 (by simp only [ScM.sz] at hz; omega) hb)
  (fun k a ns l b hl hb fit hz => ⟨within_row fit.1.2.1 (by simp only [ScM.sz] at hz; omega) hl, fun y hy m e => by subst e; exact hb _ hy (fit_el b fit.1.2.2 _ hy) (sz_el (by simp only [ScM.sz] at hz; omega) _ hy)⟩)
  (fun l hl fit hz => funcs_row fit hz hl) (fun _ _ => trivial) (fun _ _ _ _ => trivial) x
theorem funcs_any {x : X} (hf : x.fit 100000) (hz : ScM.sz x ≤ 900000000000) : FU x := funcs_row hf hz (fq_all x).2
end Go.Proofs.Yteakhlnnepjhpaa
