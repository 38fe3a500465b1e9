/- Package scope: the stack: enter, declare. -/
import Derived.Test.YteakhlnnepjhpaaScAx
import Derived.Test.YteakhlnnepjhpaaTkBx
import Derived.Test.YteakhlnnepjhpaaKc
import Derived.BigQuiet
import Derived.Deep.RegionLaw
namespace Go.Proofs.Yteakhlnnepjhpaa
open Go.RowKit
set_option linter.unusedVariables false
set_option linter.unusedSimpArgs false
theorem infoI : (Try.prog.info? 99).map (fun i => (i.zero, i.size, i.bytes)) = some (some (.agg #[.int .i64 0, .string ⟨#[]⟩, .int .i64 0, .int .i64 0]), 4, 40) := by kernel_rfl
abbrev IObj (a : It) : Obj := .cells (ics a) 99
/-- append of one item as a step of a drawn region. -/
theorem step_append_item {w : World} {ops : Array Oper} {o : Oper} {a : Act} {K : Act → World → Prop} {Q : Exit → Act → World → Prop} {E : Prop} (hgd : o.guard = none) (s x : Operand)
  (ho : o.op = .call { callee := .builtin .append, args := #[s, x], argTypes := #[56, 56] })
  (base : Nat) (v : Value) (S : List It) (hs : a.eval s = v) (hown : w.ownsRow base 99 4 v S.length (icells S))
  (b : Nat) (hx : a.eval x = .slice (some ⟨b, 0, none⟩) 1 1) (t : It) (hu : Blk w b (ics t) 99) (hlen : S.length ≤ 1000000000000) (hb : base ≤ w.heap.size)
  (h : ∀ v' w', w'.ownsRow base 99 4 v' (S.length + 1) (icells (S ++ [t])) → w.grownBy w' v.ownBlock → (v'.ownBlock = v.ownBlock ∨ v'.ownBlock = some w.heap.size) → K (a.put o.dst v') w') :
  if Region.wanted o (yielded ops a.tmps) = true then Oper.wp Try.prog o a w K Q else E := by
 have hw : Region.wanted o (yielded ops a.tmps) = true := by simp [Region.wanted, hgd]
 rw [if_pos hw]
 obtain ⟨i, hi, hz, k1, k2⟩ := info_parts infoI
 obtain ⟨v', w', hrun, h2, h3, _, h5⟩ := run_append_own_at (P := Try.prog) w base 56 o.type 99 i _ 4 40 Try.underlying56 hi hz k1 k2 rfl (by decide) v S.length (icells S) hown ⟨b, 0, none⟩ 1 1 (ics t).toList rfl (fun j y hj => by
  have e : (⟨b, 0, none⟩ : Addr).add j = ⟨b, j, none⟩ := by unfold Addr.add; split <;> simp_all
  rw [e]
  have h5 : w.heap[b]? = _ := hu
  simp only [World.cell?, h5]
  simpa using hj) (ics_one t) (by unfold maxLen; omega) (by omega) hb
 unfold Oper.wp
 simp [execOp, ho, resolve, invoke, builtin, hs, hx, hrun, Result.andThen]
 exact h v' w' (by rw [icells_append]; simpa [icells] using h2) h3 h5
theorem icells_nm (S : List It) (s : ByteArray) : icells (S ++ [nm s]) = icells S ++ [.int .i64 0, .string s, .int .i64 0, .int .i64 0] := by rw [icells_append]; rfl
section
variable {w w' : World} {B g mb ob : Nat} {vi vo : Value} {S : List It} {st st' : ScM.Sc}
/-- The items' row has grown by one (it was laid into a new block first), cells of the walker's own block and the map of counts have been stored. -/
theorem WR.grow {w1 w2 w3 : World} {vi' : Value} {a : It} (h : WR w B g vi vo mb ob S st) (b1 : Below w.heap.size w w1) (own0 : w2.ownsRow B 99 4 vi' (S.length + 1) (icells (S ++ [a]))) (gr : w1.grownBy w2 vi.ownBlock)
  (o : Only (fun b => b = g ∨ b = mb) w2 w3) (b : Blk w3 g (wcs vi' vo mb ob st') 62) (hc : Cnt w3 mb st'.ct (vis (S ++ [a]))) (hv : vis (S ++ [a]) = st'.names) (hsh : ∀ s ∈ st'.names, s.size ≤ maxLen)
  (e3 : st'.outer = st.outer) (e4 : st.ct + 1 ≤ st'.ct) (e5 : st'.own ≤ st'.ct) (e6 : st'.loops ≤ st'.ct) (e7 : st'.ct ≤ 1000000000000) : WR w3 B g vi' vo mb ob (S ++ [a]) st' ∧ Kp B false w w3 := by
 have own : w2.ownsRow B 99 4 vi' (S ++ [a]).length (icells (S ++ [a])) := by rw [List.length_append]; exact own0
 have hb := h.base
 have hg := h.blk.lt
 have s1 : ∀ q, q < w.heap.size → w1.heap[q]? = w.heap[q]? := fun q l => b1.block q l
 have z1 := b1.size
 have s2 : ∀ q, q < w.heap.size → vi.ownBlock ≠ some q → w2.heap[q]? = w.heap[q]? := fun q l n => (gr.block q (by omega) (fun e => n e.symm)).trans (s1 q l)
 have s3 : ∀ q, q < w.heap.size → vi.ownBlock ≠ some q → q ≠ g → q ≠ mb → w3.heap[q]? = w.heap[q]? := fun q l n m k => (o.block q (by have := gr.size; omega) (by omega)).trans (s2 q l n)
 have hg2 : w2.heap[g]? = some (.cells (wcs vi vo mb ob st) 62 (0, 0)) := (s2 g hg (own_blk h.items h.blk (by decide))).trans h.blk
 have hm2 : Cnt w2 mb st.ct (vis S) := h.cnt.same (s2 mb h.cnt.lt (own_map h.items h.cnt))
 refine ⟨⟨b, own_same own fun q e => o.block q (own_lt own q e).2 fun x => ?_, hc, ?_, ?_, h.hg, h.hm, h.ho, h.ne, hv, ?_, by rw [e3]; have := h.olen; omega, e5, e6, hsh, e7⟩, ⟨?_, fun q cs ty k x y _ => ?_⟩⟩
 ·rcases x with x | x
  ·exact own_blk own (show Blk w2 g _ _ from hg2) (by decide) (x ▸ e)
  ·exact own_map own hm2 (x ▸ e)
 ·rw [e3]; exact own_same h.outer fun q e => s3 q (own_lt h.outer q e).2 (fun x => own_own h.items h.outer (by decide) x e) (fun x => own_blk h.outer h.blk (by decide) (x ▸ e)) (fun x => own_map h.outer h.cnt (x ▸ e))
 ·rw [e3]; exact (h.out.same (s3 ob h.out.lt (own_out h.items h.out) (out_blk h.out h.blk) (fun e => h.ne e.symm))).wide (by omega)
 ·rw [List.length_append]; have := h.len; simp only [List.length_cons, List.length_nil]; omega
 ·exact ((b1.mono hb).grown gr (by omega) (fun k e => (own_lt h.items k e).1)).trans (o.below (B := B) (fun n e => by rcases e with rfl | rfl; exact h.hg; exact h.hm) (by have := gr.size; omega))
 ·refine (s3 q k.lt (fun e => own_blk h.items k x.symm e) (fun e => ?_) fun e => map_blk h.cnt k e.symm).trans k
  subst e
  have a : w.heap[q]? = _ := h.blk
  have k : w.heap[q]? = _ := k
  rw [a] at k
  injection k with k
  injection k with _ k
  exact y k.symm
theorem WR.cnt2 {w1 w2 w3 : World} (h : WR w B g vi vo mb ob S st) (b1 : Below w.heap.size w w1) (gr : w1.grownBy w2 vi.ownBlock) (o : Only (fun b => b = g) w2 w3) : Cnt w3 mb st.ct (vis S) :=
 h.cnt.same ((o.block mb (by have := b1.size; have := gr.size; have := h.cnt.lt; omega) (map_blk h.cnt h.blk)).trans ((gr.block mb (Nat.lt_of_lt_of_le h.cnt.lt b1.size) (fun e => own_map h.items h.cnt e.symm)).trans (b1.block mb h.cnt.lt)))
theorem Only.or {G : Nat → Prop} {F : Nat → Prop} {a b : World} (o : Only F a b) : Only (fun k => F k ∨ G k) a b := ⟨o.os, o.tape, o.output, o.size, fun k l n => o.block k l fun f => n (.inl f)⟩
theorem blkW0 {W : World} {b : Nat} {v0 v1 v2 v3 v4 v5 v6 v7 : Value} {t : TypeId} (h : Blk W b #[v0, v1, v2, v3, v4, v5, v6, v7] t) (u : Value) : Blk (W.setCell ⟨b, 0, none⟩ u) b #[u, v1, v2, v3, v4, v5, v6, v7] t := by
 have h : W.heap[b]? = _ := h
 show _ = _
 simp [World.setCell, Array.getElem?_modify, h]
theorem blkW2 {W : World} {b : Nat} {v0 v1 v2 v3 v4 v5 v6 v7 : Value} {t : TypeId} (h : Blk W b #[v0, v1, v2, v3, v4, v5, v6, v7] t) (u : Value) : Blk (W.setCell ⟨b, 2, none⟩ u) b #[v0, v1, u, v3, v4, v5, v6, v7] t := by
 have h : W.heap[b]? = _ := h
 show _ = _
 simp [World.setCell, Array.getElem?_modify, h]
theorem blkW3 {W : World} {b : Nat} {v0 v1 v2 v3 v4 v5 v6 v7 : Value} {t : TypeId} (h : Blk W b #[v0, v1, v2, v3, v4, v5, v6, v7] t) (u : Value) : Blk (W.setCell ⟨b, 3, none⟩ u) b #[v0, v1, v2, u, v4, v5, v6, v7] t := by
 have h : W.heap[b]? = _ := h
 show _ = _
 simp [World.setCell, Array.getElem?_modify, h]
theorem own_shape {w : World} {B z n : Nat} {ty : TypeId} {v : Value} {ys : List Value} (h : w.ownsRow B ty z v n ys) : ∃ A c, v = .slice A n c := by
 rcases h.2 with ⟨rfl, rfl⟩ | ⟨p, cap, cur, rfl, r⟩
 ·exact ⟨_, _, rfl⟩
 ·exact ⟨_, _, rfl⟩
theorem WR.blk2 {w1 w2 : World} (h : WR w B g vi vo mb ob S st) (b : Below w.heap.size w w1) (gr : w1.grownBy w2 vi.ownBlock) : Blk w2 g (wcs vi vo mb ob st) 62 :=
 (gr.block g (Nat.lt_of_lt_of_le h.blk.lt b.size) (fun e => own_blk h.items h.blk (by decide) e.symm)).trans (h.blk.keep b)
set_option maxRecDepth 20000 in
set_option maxHeartbeats 4000000 in
/-- enter. -/
theorem enter_s (h : WR w B g vi vo mb ob S st) (k : Int) (hk : k = 1 ∨ k = 2 ∨ k = 3) (hm : st.ct + 1 ≤ 1000000000000) :
  Calls Try.prog 39 #[.pointer (some ⟨g, 0, none⟩), .int .i64 k] w fun e w' => e = .returned (.tuple #[]) ∧ WK w' B g (S ++ [⟨k, ⟨#[]⟩, st.own, st.loops⟩]) (ScM.enter k st) ∧ Kp B false w w' := by
 obtain ⟨⟨c0, c1, c2, c3, c4, c5, c6, c7⟩, f0, f1, f2, f3, f4, f5, f6, f7⟩ := h.blk.eight
 have H := Lib.hid h
 obtain ⟨a, ha⟩ : ∃ a : It, a = ⟨k, ⟨#[]⟩, st.own, st.loops⟩ := ⟨_, rfl⟩
 rw [← ha]
 have HA := Lib.hid ha
 have KA := Lib.hid (show ics a = #[.int .i64 k, .string ⟨#[]⟩, .int .i64 (st.own : Int), .int .i64 (st.loops : Int)] by rw [ha]; rfl)
 have KV := Lib.hid (show vis (S ++ [a]) = vis S by rw [vis_append, ha]; simp [vis]; omega)
 have KB := Lib.hid (fun (W : World) (e : W.cell? ⟨g, 2, none⟩ = some (.int .i64 (st.own : Int)) ∧ W.cell? ⟨g, 3, none⟩ = some (.int .i64 (st.loops : Int))) => show W.cell? ⟨g, 2, none⟩ = some (.int .i64 (st.own : Int)) ∧ W.cell? ⟨g, 3, none⟩ = some (.int .i64 (st.loops : Int)) from e)
 have KC := Lib.hid hm
 have wl : wrap64 ((st.loops : Int) + 1) = (st.loops : Int) + 1 := by have := h.loops; have := h.max; unfold wrap64; omega
 have KH := Lib.hid hk
 have LE := Lib.hid (show S.length ≤ 1000000000000 from Nat.le_trans h.len h.max)
 have AL : Hid (Below w.heap.size w (w.alloc (.cells #[.int .i64 k, .string ⟨#[]⟩, .int .i64 (st.own : Int), .int .i64 (st.loops : Int)] 99))) := Lib.hid ((Below.refl _ w).alloc (Nat.le_refl _) _)
 have A0 := keep_al (.cells #[.int .i64 k, .string ⟨#[]⟩, .int .i64 (st.own : Int), .int .i64 (st.loops : Int)] 99) c0
 clear h ha
 go_enter Try.func39, Try.ntmps39
 go_wp2_with fail
 refine wp_region_held_drew (S := fun W => W.cell? ⟨g, 2, none⟩ = some (.int .i64 (st.own : Int)) ∧ W.cell? ⟨g, 3, none⟩ = some (.int .i64 (st.loops : Int))) (by kernel_rfl) ⟨c2, c3⟩ (fun hH0 => ?_)
 refine tkB 0 hH0 ?_
 refine tkB 1 hH0 ?_
 refine tkB 2 hH0 ?_
 refine tkB 3 hH0 ?_
 refine tkB 5 hH0 ?_
 refine tkB 6 hH0 ?_
 refine tkB 7 hH0 ?_
 refine tkB 8 hH0 ?_
 refine tkB 9 hH0 ?_
 refine tkB 10 hH0 ?_
 refine tkB 11 hH0 ?_
 refine tkB 12 hH0 ?_
 refine tkB 13 hH0 ?_
 refine tkB 14 hH0 ?_
 refine wpAnyH_ready (rs := [4, 15]) (by kernel_rfl) (by simp) ?_
 refine rdB (fun K hK => ?_) (rdB (fun K hK => ?_) AllReadyH.nil)
 all_goals rw [if_pos (by rfl)]
 go_wp2_with fail
 refine hK.out _ _ ⟨c2, c3⟩ (fun hH1 => ?_)
 clear hK K
 try simp only [Act.put, List.setIfInBounds_toArray, List.set_cons_zero, List.set_cons_succ]
 refine wpAnyH_ready (rs := [15]) (by kernel_rfl) (by simp) ?_
 refine rdB (fun K hK => ?_) AllReadyH.nil
 rw [if_pos (by rfl)]
 rotate_left
 refine hK.out _ _ ⟨keep_al _ c2, keep_al _ c3⟩ (fun hH1 => ?_)
 clear hK K
 try simp only [Act.put, List.setIfInBounds_toArray, List.set_cons_zero, List.set_cons_succ]
 refine wpAnyH_ready (rs := [4]) (by kernel_rfl) (by simp) ?_
 refine rdB (fun K hK => ?_) AllReadyH.nil
 rw [if_pos (by rfl)]
 rotate_left
 go_wp2_with fail
 all_goals
  refine hK.out _ _ ⟨keep_al _ c2, keep_al _ c3⟩ (fun hH2 => ?_)
  clear hK K
  try simp only [Act.put, List.setIfInBounds_toArray, List.set_cons_zero, List.set_cons_succ]
  refine wpAnyH_ready (rs := [16]) (by kernel_rfl) (by simp) ?_
  refine rdB (fun K hK => ?_) AllReadyH.nil
  refine step_append_item rfl (.tmp 8) (.tmp 19) rfl B vi S ?_ ?_ w.heap.size ?_ a ?_ ?_ ?_ ?_; rfl; exact own_same H.out.items (fun q e => AL.out.block q (own_lt H.out.items q e).2); rfl; (rw [KA.out]; exact Blk.new w _ _); exact LE.out; exact Nat.le_trans H.out.base AL.out.size; intro v9 w9 own9 g9 l9; obtain ⟨A9, c9, rfl⟩ := own_shape own9; have OW := Lib.hid own9; have G9 := Lib.hid g9; have L9 := Lib.hid l9; have K9 := Lib.hid (H.out.blk2 AL.out.drew g9); clear own9 g9 l9; obtain ⟨⟨d0, d1, d2, d3, d4, d5, d6, d7⟩, e0, e1, e2, e3, e4, e5, e6, e7⟩ := K9.out.eight
  refine hK.out _ _ ⟨d2, d3⟩ (fun hH3 => ?_)
  clear hK K
  try simp only [Act.put, List.setIfInBounds_toArray, List.set_cons_zero, List.set_cons_succ]
  refine tkB 17 hH3 ?_
  refine tkB 18 hH3 ?_
  refine wpAnyH_ready (rs := [19]) (by kernel_rfl) (by simp) ?_
  refine rdB (fun K hK => ?_) AllReadyH.nil
  rw [if_pos (by rfl)]
  go_wp2_with fail
  refine hK.out _ _ ⟨(blkW0 K9.out _).eight.1.2.2.1, (blkW0 K9.out _).eight.1.2.2.2.1⟩ (fun hH4 => ?_)
  clear hK K
  try simp only [Act.put, List.setIfInBounds_toArray, List.set_cons_zero, List.set_cons_succ]
  refine wpAnyH_done (by kernel_rfl) ?_ _
  rcases KH.out with rfl | rfl | rfl
  ·go_wp2_with fail
   go_end0
   have o := ((Only.refl (fun b => b = g) w9).setCell (p := ⟨g, 0, none⟩) (.inl rfl) (.slice A9 (S.length + 1) c9))
   have r := H.out.grow (st' := ScM.enter 1 st) AL.out.drew OW.out G9.out o.or (blkW0 K9.out _) (by rw [KV.out]; exact (H.out.cnt2 AL.out.drew G9.out o).wide (Nat.le_succ _)) (KV.out.trans H.out.names) H.out.short rfl (Nat.le_refl _) (Nat.le_succ_of_le H.out.own) (Nat.le_succ_of_le H.out.loops) KC.out
   exact ⟨rfl, ⟨_, _, _, _, r.1⟩, r.2⟩
  ·go_wp2_with fail
   go_end0
   have o := ((Only.refl (fun b => b = g) w9).setCell (p := ⟨g, 0, none⟩) (.inl rfl) (.slice A9 (S.length + 1) c9)).setCell (p := ⟨g, 3, none⟩) (.inl rfl) (.int .i64 ((st.loops : Int) + 1))
   have r := H.out.grow (st' := ScM.enter 2 st) AL.out.drew OW.out G9.out o.or (blkW3 (blkW0 K9.out _) _) (by rw [KV.out]; exact (H.out.cnt2 AL.out.drew G9.out o).wide (Nat.le_succ _)) (KV.out.trans H.out.names) H.out.short rfl (Nat.le_refl _) (Nat.le_succ_of_le H.out.own) (Nat.succ_le_succ H.out.loops) KC.out
   exact ⟨rfl, ⟨_, _, _, _, r.1⟩, r.2⟩
  ·go_wp2_with fail
   go_end0
   have o := (((Only.refl (fun b => b = g) w9).setCell (p := ⟨g, 0, none⟩) (.inl rfl) (.slice A9 (S.length + 1) c9)).setCell (p := ⟨g, 2, none⟩) (.inl rfl) (.int .i64 0)).setCell (p := ⟨g, 3, none⟩) (.inl rfl) (.int .i64 0)
   have r := H.out.grow (st' := ScM.enter 3 st) AL.out.drew OW.out G9.out o.or (blkW3 (blkW2 (blkW0 K9.out _) _) _) (by rw [KV.out]; exact (H.out.cnt2 AL.out.drew G9.out o).wide (Nat.le_succ _)) (KV.out.trans H.out.names) H.out.short rfl (Nat.le_refl _) (Nat.zero_le _) (Nat.zero_le _) KC.out
   exact ⟨rfl, ⟨_, _, _, _, r.1⟩, r.2⟩
end
end Go.Proofs.Yteakhlnnepjhpaa
