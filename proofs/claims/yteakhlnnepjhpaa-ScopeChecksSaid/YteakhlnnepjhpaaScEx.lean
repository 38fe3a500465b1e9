/- Package scope: the walker: use. -/
import Derived.Test.YteakhlnnepjhpaaScDx
namespace Go.Proofs.Yteakhlnnepjhpaa
open Go.RowKit
set_option linter.unusedVariables false
set_option linter.unusedSimpArgs false
theorem infoT9 : (Try.prog.info? 9).map (fun i => (i.zero, i.size, i.bytes)) = some (some (.string ⟨#[]⟩), 1, 16) := by kernel_rfl
/-- append of one text as a step of a drawn region. -/
theorem step_append_nm {w : World} {ops : Array Oper} {o : Oper} {a : Act} {K : Act → World → Prop} {Q : Exit → Act → World → Prop} {E : Prop} (hgd : o.guard = none) (s x : Operand)
  (ho : o.op = .call { callee := .builtin .append, args := #[s, x], argTypes := #[33, 33] })
  (base : Nat) (v : Value) (l : List ByteArray) (hs : a.eval s = v) (hown : w.ownsRow base 9 1 v l.length (l.map Value.string))
  (b : Nat) (hx : a.eval x = .slice (some ⟨b, 0, none⟩) 1 1) (c : ByteArray) (hu : w.cell? ⟨b, 0, none⟩ = some (.string c)) (hlen : l.length ≤ 1000000000000) (hb : base ≤ w.heap.size)
  (h : ∀ v' w', w'.ownsRow base 9 1 v' (l.length + 1) ((l ++ [c]).map Value.string) → w.grownBy w' v.ownBlock → K (a.put o.dst v') w') :
  if Region.wanted o (yielded ops a.tmps) = true then Oper.wp Try.prog o a w K Q else E := by
 have hw : Region.wanted o (yielded ops a.tmps) = true := by simp [Region.wanted, hgd]
 rw [if_pos hw]
 obtain ⟨i, hi, hz, k1, k2⟩ := info_parts infoT9
 obtain ⟨v', w', hrun, h2, h3, _, h5⟩ := run_append_own_at (P := Try.prog) w base 33 o.type 9 i _ 1 16 Try.underlying33 hi hz k1 k2 rfl (by decide) v l.length (l.map Value.string) hown ⟨b, 0, none⟩ 1 1 [.string c] rfl (fun j y hj => by
  match j, hj with
  | 0, hj => simp at hj; subst hj; exact hu) (fun u hu => by simp at hu; subst hu; rfl) (by unfold maxLen; omega) (by omega) hb
 unfold Oper.wp
 simp [execOp, ho, resolve, invoke, builtin, hs, hx, hrun, Result.andThen]
 exact h v' w' (by rw [List.map_append]; exact h2) h3
theorem WR.drew {w : World} {B g mb ob : Nat} {vi vo : Value} {S : List It} {st : ScM.Sc} (h : WR w B g vi vo mb ob S st) : WR w.drew B g vi vo mb ob S st := h.same fun _ _ => rfl
set_option maxRecDepth 20000 in
set_option maxHeartbeats 4000000 in
/-- use: a name that is there. -/
theorem use_has {w : World} {B g mb ob : Nat} {vi vo : Value} {S : List It} {st : ScM.Sc} (h : WR w B g vi vo mb ob S st) (k a n op : Int) (s : ByteArray) (v5 v6 : Value) (hs : s.size ≤ maxLen) (q : ScM.has st.names s = true) :
  Calls Try.prog 74 #[.pointer (some ⟨g, 0, none⟩), .agg #[.int .i64 k, .int .i64 a, .int .i64 n, .string s, .int .i64 op, v5, v6]] w fun e w' => e = .returned (.tuple #[]) ∧ WK w' B g S (ScM.use s a st) ∧ Kp B true w w' := by
 have H := Lib.hid h
 have AL := Lib.hid ((Below.refl w.heap.size w).alloc (Nat.le_refl _) (.cells #[.int .i64 k, .int .i64 a, .int .i64 n, .string s, .int .i64 op, v5, v6] 39))
 have H1 := Lib.hid (h.keep AL.out).drew
 have U := Lib.hid (show ScM.use s a st = st by unfold ScM.use; rw [q]; rfl)
 have HAS := Lib.hid (has_s H1.out s hs)
 rw [q] at HAS
 have KE := Lib.hid (show ((w.alloc (.cells #[.int .i64 k, .int .i64 a, .int .i64 n, .string s, .int .i64 op, v5, v6] 39)).drew).cell? ⟨w.heap.size, 3, none⟩ = some (.string s) from (Blk.new w #[.int .i64 k, .int .i64 a, .int .i64 n, .string s, .int .i64 op, v5, v6] 39).seven.1.2.2.2.1)
 have KB := Lib.hid (fun (W : World) (e : W.cell? ⟨w.heap.size, 3, none⟩ = some (.string s)) => e)
 clear h q
 go_enter Try.func74, Try.ntmps74
 go_wp2_with fail
 refine wp_region_held_drew (S := fun W => W.cell? ⟨w.heap.size, 3, none⟩ = some (.string s)) (by kernel_rfl) KE.out (fun hH0 => ?_)
 refine tkB 0 hH0 ?_
 refine tkB 1 hH0 ?_
 refine tkB 2 hH0 ?_
 refine tkB 3 hH0 ?_
 refine tkB 4 hH0 ?_
 refine wpAnyH_ready (rs := [5]) (by kernel_rfl) (by simp) ?_
 refine rdB (fun K hK => ?_) AllReadyH.nil
 rw [if_pos (by rfl)]
 go_wp2_with (go_at_call 71; refine HAS.out.mono ?_; rintro e w1 ⟨rfl, rfl⟩)
 refine hK.out _ _ KE.out (fun hH1 => ?_)
 clear hK K
 try simp only [Act.put, List.setIfInBounds_toArray, List.set_cons_zero, List.set_cons_succ]
 refine tkB 6 hH1 ?_
 refine tkB 7 hH1 ?_
 refine tkB 8 hH1 ?_
 refine wpAnyH_ready (rs := [9]) (by kernel_rfl) (by simp) ?_
 refine rdB (fun K hK => ?_) AllReadyH.nil
 rw [if_neg (by exact Bool.false_ne_true)]
 refine hK.out _ _ KE.out (fun hH2 => ?_)
 clear hK K
 try simp only [Act.put, List.setIfInBounds_toArray, List.set_cons_zero, List.set_cons_succ]
 refine tkB 10 hH2 ?_
 refine wpAnyH_done (by kernel_rfl) ?_ _
 go_wp2_with fail
 rw [U.out]
 exact ⟨rfl, _, results_none rfl _ _ _, rfl, ⟨_, _, _, _, H1.out⟩, (Kp.of_below AL.out H.out.base).drew⟩
theorem keepO {w w' : World} {B g mb ob : Nat} {vi vo : Value} {S : List It} {st : ScM.Sc} (h : WR w B g vi vo mb ob S st) (b : Below w.heap.size w w') : Out w' ob st.ct st.outer := h.out.same (b.block ob h.out.lt)
theorem WR.noted {w w1 w2 w3 w4 : World} {B g mb ob : Nat} {vi vo vo' : Value} {S : List It} {st : ScM.Sc} {s : ByteArray} (h : WR w B g vi vo mb ob S st) (g1 : w.grownBy w1 (some ob)) (b2 : Below w1.heap.size w1 w2) (gr : w2.grownBy w3 vo.ownBlock) (o : Only (fun b => b = g) w3 w4)
  (own0 : w3.ownsRow B 9 1 vo' (st.outer.length + 1) ((st.outer ++ [s]).map .string)) (ho : Out w1 ob (st.ct + 1) (st.outer ++ [s])) (b : Blk w4 g (wcs vi vo' mb ob st) 62) (hm : st.ct + 1 ≤ 1000000000000) :
  WR w4 B g vi vo' mb ob S { st with outer := st.outer ++ [s], ct := st.ct + 1 } ∧ Kp B true w w4 := by
 have own : w3.ownsRow B 9 1 vo' (st.outer ++ [s]).length ((st.outer ++ [s]).map .string) := by rw [List.length_append]; exact own0
 have z1 := g1.size
 have z2 := b2.size
 have z3 := gr.size
 have s1 : ∀ q, q < w.heap.size → q ≠ ob → w1.heap[q]? = w.heap[q]? := fun q l n => g1.block q l (fun e => n (Option.some.inj e))
 have s2 : ∀ q, q < w.heap.size → q ≠ ob → vo.ownBlock ≠ some q → w3.heap[q]? = w.heap[q]? := fun q l n m => (gr.block q (by omega) (fun e => m e.symm)).trans ((b2.block q (by omega)).trans (s1 q l n))
 have s3 : ∀ q, q < w.heap.size → q ≠ ob → vo.ownBlock ≠ some q → q ≠ g → w4.heap[q]? = w.heap[q]? := fun q l n m k => (o.block q (by omega) k).trans (s2 q l n m)
 have go : g ≠ ob := fun e => out_blk h.out h.blk e.symm
 have hg3 : Blk w3 g (wcs vi vo mb ob st) 62 := (s2 g h.blk.lt go (own_blk h.outer h.blk (by decide))).trans h.blk
 refine ⟨⟨b, own_same h.items fun q e => s3 q (own_lt h.items q e).2 (fun x => own_out h.items h.out (x ▸ e)) (fun x => own_own h.outer h.items (by decide) x e) (fun x => own_blk h.items h.blk (by decide) (x ▸ e)), ?_, own_same own fun q e => o.block q (own_lt own q e).2 fun x => own_blk own hg3 (by decide) (x ▸ e), ?_, h.hg, h.hm, h.ho, h.ne, h.names, Nat.le_succ_of_le h.len, ?_, Nat.le_succ_of_le h.own, Nat.le_succ_of_le h.loops, h.short, hm⟩, ⟨?_, fun q cs ty k x y z => ?_⟩⟩
 ·exact (h.cnt.same (s3 mb h.cnt.lt h.ne (own_map h.outer h.cnt) (map_blk h.cnt h.blk))).wide (Nat.le_succ _)
 ·have hl := h.out.lt
  refine ho.same ((o.block ob (by omega) (fun e => go e.symm)).trans ((gr.block ob (by omega) (fun e => ?_)).trans (b2.block ob (by omega))))
  exact own_out h.outer h.out e.symm
 ·have := h.olen
  show (st.outer ++ [s]).length ≤ st.ct + 1
  rw [List.length_append]
  exact Nat.succ_le_succ this
 ·have hb := h.base
  refine (((Below.refl B w).grown g1 hb (fun k e => by have := h.ho; have := Option.some.inj e; omega)).trans (b2.mono (by omega))).trans (((Below.refl B w2).grown gr (by omega) (fun k e => (own_lt h.outer k e).1)).trans (o.below (fun n e => by subst e; exact h.hg) (by omega)))
 ·refine (s3 q k.lt (fun e => out_blk h.out k e.symm) (fun e => own_blk h.outer k (fun e2 => z rfl e2.symm) e) fun e => ?_).trans k
  subst e
  have a : w.heap[q]? = _ := h.blk
  have k : w.heap[q]? = _ := k
  rw [a] at k
  injection k with k
  injection k with _ k
  exact y k.symm
theorem keep_new (w : World) (v : Value) (t : TypeId) : (w.alloc (.cells #[v] t)).cell? ⟨w.heap.size, 0, none⟩ = some v := by
 unfold World.cell?
 rw [show (w.alloc (.cells #[v] t)).heap[w.heap.size]? = _ from Blk.new w #[v] t]
 rfl
theorem blkW6 {W : World} {b : Nat} {v0 v1 v2 v3 v4 v5 v6 v7 : Value} {t : TypeId} (h : Blk W b #[v0, v1, v2, v3, v4, v5, v6, v7] t) (u : Value) : Blk (W.setCell ⟨b, 6, none⟩ u) b #[v0, v1, v2, v3, v4, v5, u, v7] t := by
 have h : W.heap[b]? = _ := h
 show _ = _
 simp [World.setCell, Array.getElem?_modify, h]
theorem own_grown2 {w w1 w2 : World} {B z n ob m : Nat} {ty : TypeId} {v : Value} {ys : List Value} {l : List ByteArray} (h : w.ownsRow B ty z v n ys) (k : Out w ob m l) (g1 : w.grownBy w1 (some ob)) (b2 : Below w1.heap.size w1 w2) : w2.ownsRow B ty z v n ys :=
 own_same h fun q e => (b2.block q (Nat.lt_of_lt_of_le (own_lt h q e).2 g1.size)).trans (g1.block q (own_lt h q e).2 (fun x => own_out h k (Option.some.inj x ▸ e)))
set_option maxRecDepth 20000 in
set_option maxHeartbeats 4000000 in
/-- use: a name that is not. -/
theorem use_not {w : World} {B g mb ob : Nat} {vi vo : Value} {S : List It} {st : ScM.Sc} (h : WR w B g vi vo mb ob S st) (k a n op : Int) (s : ByteArray) (v5 v6 : Value) (hs : s.size ≤ maxLen) (hm : st.ct + 1 ≤ 1000000000000) (q : ScM.has st.names s = false) :
  Calls Try.prog 74 #[.pointer (some ⟨g, 0, none⟩), .agg #[.int .i64 k, .int .i64 a, .int .i64 n, .string s, .int .i64 op, v5, v6]] w fun e w' => e = .returned (.tuple #[]) ∧ WK w' B g S (ScM.use s a st) ∧ Kp B true w w' := by
 have H := Lib.hid h
 have AL := Lib.hid ((Below.refl w.heap.size w).alloc (Nat.le_refl _) (.cells #[.int .i64 k, .int .i64 a, .int .i64 n, .string s, .int .i64 op, v5, v6] 39))
 have H1 := Lib.hid (h.keep AL.out).drew
 have HAS := Lib.hid (has_s H1.out s hs)
 rw [q] at HAS
 have BLT := Lib.hid (fun W => builtin_any s W)
 have KE := Lib.hid (show ((w.alloc (.cells #[.int .i64 k, .int .i64 a, .int .i64 n, .string s, .int .i64 op, v5, v6] 39)).drew).cell? ⟨w.heap.size, 3, none⟩ = some (.string s) from (Blk.new w #[.int .i64 k, .int .i64 a, .int .i64 n, .string s, .int .i64 op, v5, v6] 39).seven.1.2.2.2.1)
 have KB := Lib.hid (fun (W : World) (e : W.cell? ⟨w.heap.size, 3, none⟩ = some (.string s)) => e)
 have U := Lib.hid (show ScM.use s a st = if ScM.builtin s then st else ScM.note s (ScM.fault 14 a st) by unfold ScM.use; rw [q]; rfl)
 have FLT := Lib.hid (fault_s H1.out 14 a)
 obtain ⟨bv, hbv⟩ : ∃ bv, ScM.builtin s = bv := ⟨_, rfl⟩
 rw [hbv] at BLT U
 clear h q hbv
 have HM := Lib.hid hm
 have HS := Lib.hid hs
 clear hm hs
 obtain ⟨st2, hst2⟩ : ∃ st2, ScM.fault 14 a st = st2 := ⟨_, rfl⟩
 have CT := Lib.hid (show st2.ct = st.ct by rw [← hst2]; unfold ScM.fault; split <;> rfl)
 rw [hst2] at FLT U
 clear hst2
 go_enter Try.func74, Try.ntmps74
 go_wp2_with fail
 refine wp_region_held_drew (S := fun W => W.cell? ⟨w.heap.size, 3, none⟩ = some (.string s)) (by kernel_rfl) KE.out (fun hH0 => ?_)
 refine tkB 0 hH0 ?_
 refine tkB 1 hH0 ?_
 refine tkB 2 hH0 ?_
 refine tkB 3 hH0 ?_
 refine tkB 4 hH0 ?_
 refine wpAnyH_ready (rs := [5]) (by kernel_rfl) (by simp) ?_
 refine rdB (fun K hK => ?_) AllReadyH.nil
 rw [if_pos (by rfl)]
 go_wp2_with (go_at_call 71; refine HAS.out.mono ?_; rintro e w1 ⟨rfl, rfl⟩)
 refine hK.out _ _ KE.out (fun hH1 => ?_)
 clear hK K
 try simp only [Act.put, List.setIfInBounds_toArray, List.set_cons_zero, List.set_cons_succ]
 refine tkB 6 hH1 ?_
 refine tkB 7 hH1 ?_
 refine tkB 8 hH1 ?_
 refine wpAnyH_ready (rs := [9]) (by kernel_rfl) (by simp) ?_
 refine rdB (fun K hK => ?_) AllReadyH.nil
 rw [if_pos (by rfl)]
 go_wp2_with (go_at_call 9; refine (BLT.out _).mono ?_; rintro e w1 ⟨rfl, rfl⟩)
 refine hK.out _ _ KE.out (fun hH2 => ?_)
 clear hK K
 try simp only [Act.put, List.setIfInBounds_toArray, List.set_cons_zero, List.set_cons_succ]
 cases bv with
 | true =>
  refine tkB 10 hH2 ?_
  refine wpAnyH_done (by kernel_rfl) ?_ _
  go_wp2_with fail
  rw [U.out]
  exact ⟨rfl, _, results_none rfl _ _ _, rfl, ⟨_, _, _, _, H1.out⟩, (Kp.of_below AL.out H.out.base).drew⟩
 | false =>
  refine tkB 10 hH2 ?_
  refine wpAnyH_done (by kernel_rfl) ?_ _
  clear hH0 hH1 hH2
  go_wp2_with (go_at_call 70; refine FLT.out.mono ?_; rintro e w2 ⟨rfl, h2, kp2⟩; have H2 := Lib.hid h2; have KP2 := Lib.hid (((Kp.of_below (b := true) AL.out H.out.base).drew).trans kp2); have BX := Lib.hid (kp2.blk _ _ _ (Blk.new w #[.int .i64 k, .int .i64 a, .int .i64 n, .string s, .int .i64 op, v5, v6] 39) (by decide) (by decide) (fun _ => by decide)); obtain ⟨⟨c0, c1, c2, c3, c4, c5, c6, c7⟩, f0, f1, f2, f3, f4, f5, f6, f7⟩ := h2.blk.eight; obtain ⟨⟨b0, b1, b2, b3, b4, b5, b6⟩, -⟩ := BX.out.seven; have L2 := h2.drew.out.look s HS.out; have A7 := keep_al (.cells #[] 105) c7; have A3 := keep_al (.cells #[] 105) b3; have L3 := (h2.keep ((Below.refl _ w2).alloc (Nat.le_refl _) (.cells #[] 105))).drew.out.look s HS.out; obtain ⟨ov, hov⟩ : ∃ ov, ScM.has st2.outer s = ov := ⟨_, rfl⟩; rw [hov] at L2 L3; have HOV := Lib.hid hov; clear h2 kp2 hov)
  go_region
  all_goals
   have H3 := Lib.hid (H2.out.keep ((Below.refl _ w2).alloc (Nat.le_refl _) (.cells #[] 105))).drew
   have KP3 := Lib.hid ((KP2.out.alloc H.out.base (.cells #[] 105)).drew)
   have BX3 : Hid (Blk ((w2.alloc (.cells #[] 105)).drew) w.heap.size #[.int .i64 k, .int .i64 a, .int .i64 n, .string s, .int .i64 op, v5, v6] 39) := Lib.hid (blk_al _ BX.out)
   clear A7 A3 L2 L3 KP2 BX c0 c1 c2 c3 c4 c5 c6 c7 f0 f1 f2 f3 f4 f5 f6 f7 b0 b1 b2 b3 b4 b5 b6 KE KB HAS
   generalize (w2.alloc (.cells #[] 105)).drew = w3 at *
   obtain ⟨⟨c0, c1, c2, c3, c4, c5, c6, c7⟩, f0, f1, f2, f3, f4, f5, f6, f7⟩ := H3.out.blk.eight
   obtain ⟨⟨b0, b1, b2, b3, b4, b5, b6⟩, -⟩ := BX3.out.seven
   cases ov with
   | true =>
    go_wp2_with fail
    go_end0
    rw [U.out]
    have e : ScM.note s st2 = st2 := by unfold ScM.note; rw [HOV.out]; rfl
    exact ⟨rfl, by rw [if_neg (by decide), e]; exact ⟨_, _, _, _, H3.out⟩, KP3.out⟩
   | false =>
    have H3D := Lib.hid H3.out.drew
    obtain ⟨w5, r5, k5, g5⟩ := H3D.out.out.store s HS.out (Nat.lt_of_le_of_lt H3.out.max (by decide))
    have K5 := Lib.hid k5
    have G5 := Lib.hid g5
    have B5 := Lib.hid (H3D.out.blk.grown g5 (fun e => out_blk H3.out.out H3.out.blk (Option.some.inj e)))
    have BX5 := Lib.hid (Blk.grown (show Blk w3.drew w.heap.size _ _ from BX3.out) g5 (fun e => out_blk H3.out.out BX3.out (Option.some.inj e)))
    obtain ⟨⟨x0, x1, x2, x3, x4, x5, x6, x7⟩, y0, y1, y2, y3, y4, y5, y6, y7⟩ := B5.out.eight
    obtain ⟨⟨z0, z1, z2, z3, z4, z5, z6⟩, -⟩ := BX5.out.seven
    clear k5 g5
    go_wp2_with fail
    go_region
    go_wp2_with fail
    have KB := Lib.hid (fun (W : World) (e : W.cell? ⟨w.heap.size, 3, none⟩ = some (.string s)) => e)
    have A6 := keep_al (.cells #[.string s] 9) x6
    have AL5 := Lib.hid (((Below.refl w5.heap.size w5).alloc (Nat.le_refl _) (.cells #[.string s] 9)).drew)
    have OW5 := Lib.hid (own_grown2 H3D.out.outer H3D.out.out G5.out AL5.out)
    refine wp_region_held_drew (S := fun W => W.cell? ⟨w.heap.size, 3, none⟩ = some (.string s)) (by kernel_rfl) z3 (fun hH0 => ?_)
    refine tkB 0 hH0 ?_
    refine tkB 1 hH0 ?_
    refine tkB 2 hH0 ?_
    refine tkB 3 hH0 ?_
    refine tkB 5 hH0 ?_
    refine tkB 6 hH0 ?_
    refine wpAnyH_ready (rs := [4, 7]) (by kernel_rfl) (by simp) ?_
    refine rdB (fun K hK => ?_) (rdB (fun K hK => ?_) AllReadyH.nil)
    all_goals rw [if_pos (by rfl)]
    go_wp2_with fail
    refine hK.out _ _ z3 (fun hH1 => ?_)
    clear hK K
    try simp only [Act.put, List.setIfInBounds_toArray, List.set_cons_zero, List.set_cons_succ]
    refine wpAnyH_ready (rs := [7]) (by kernel_rfl) (by simp) ?_
    refine rdB (fun K hK => ?_) AllReadyH.nil
    rw [if_pos (by rfl)]
    rotate_left
    refine hK.out _ _ (keep_al _ z3) (fun hH1 => ?_)
    clear hK K
    try simp only [Act.put, List.setIfInBounds_toArray, List.set_cons_zero, List.set_cons_succ]
    refine wpAnyH_ready (rs := [4]) (by kernel_rfl) (by simp) ?_
    refine rdB (fun K hK => ?_) AllReadyH.nil
    rw [if_pos (by rfl)]
    rotate_left
    go_wp2_with fail
    all_goals
     refine hK.out _ _ (keep_al _ z3) (fun hH2 => ?_)
     clear hK K
     try simp only [Act.put, List.setIfInBounds_toArray, List.set_cons_zero, List.set_cons_succ]
     refine wpAnyH_ready (rs := [8]) (by kernel_rfl) (by simp) ?_
     refine rdB (fun K hK => ?_) AllReadyH.nil
     refine step_append_nm rfl (.tmp 44) (.tmp 47) rfl B vo st2.outer ?_ ?_ w5.heap.size ?_ s ?_ ?_ ?_ ?_; rfl; exact OW5.out; rfl; exact keep_new w5 (.string s) _; exact Nat.le_trans H3.out.olen H3.out.max; exact Nat.le_trans H3.out.base (Nat.le_trans G5.out.size AL5.out.size); intro v9 w9 own9 g9; obtain ⟨A9, c9, rfl⟩ := own_shape own9; have OW := Lib.hid own9; have G9 := Lib.hid g9
     have K9 := Lib.hid (Blk.grown (B5.out.keep AL5.out) g9 (own_blk OW5.out (B5.out.keep AL5.out) (by decide)))
     have KX := Lib.hid (Blk.grown (BX5.out.keep AL5.out) g9 (own_blk OW5.out (BX5.out.keep AL5.out) (by decide)))
     clear own9 g9
     obtain ⟨⟨d0, d1, d2, d3, d4, d5, d6, d7⟩, e0, e1, e2, e3, e4, e5, e6, e7⟩ := K9.out.eight
     obtain ⟨⟨u0, u1, u2, u3, u4, u5, u6⟩, -⟩ := KX.out.seven
     refine hK.out _ _ u3 (fun hH3 => ?_)
     clear hK K
     try simp only [Act.put, List.setIfInBounds_toArray, List.set_cons_zero, List.set_cons_succ]
     refine tkB 9 hH3 ?_
     refine tkB 10 hH3 ?_
     refine wpAnyH_ready (rs := [11]) (by kernel_rfl) (by simp) ?_
     refine rdB (fun K hK => ?_) AllReadyH.nil
     rw [if_pos (by rfl)]
     go_wp2_with fail
     refine hK.out _ _ (((World.cell?_of_block (Below.heap_setCell _ _ _ w.heap.size (fun e => absurd H.out.blk.lt (by rw [show w.heap.size = g from e]; exact Nat.lt_irrefl _)))).trans u3)) (fun hH4 => ?_)
     clear hK K
     try simp only [Act.put, List.setIfInBounds_toArray, List.set_cons_zero, List.set_cons_succ]
     refine wpAnyH_done (by kernel_rfl) ?_ _
     go_wp2_with fail
     go_end0
     have o := (Only.refl (fun b => b = g) w9).setCell (p := ⟨g, 6, none⟩) (.inl rfl) (.slice A9 (st2.outer.length + 1) c9)
     have r := H3D.out.noted G5.out AL5.out G9.out o OW.out K5.out (blkW6 K9.out _) (by rw [CT.out]; exact HM.out)
     have e : ScM.note s st2 = { st2 with outer := st2.outer ++ [s], ct := st2.ct + 1 } := by unfold ScM.note; rw [HOV.out]; rfl
     rw [U.out, if_neg (by decide), e]
     exact ⟨rfl, ⟨_, _, _, _, r.1⟩, KP3.out.drew.trans r.2⟩
/-- use. -/
theorem use_s {w : World} {B g : Nat} {S : List It} {st : ScM.Sc} (h : WK w B g S st) (k a n op : Int) (s : ByteArray) (v5 v6 : Value) (hs : s.size ≤ maxLen) (hm : st.ct + 1 ≤ 1000000000000) :
  Calls Try.prog 74 #[.pointer (some ⟨g, 0, none⟩), .agg #[.int .i64 k, .int .i64 a, .int .i64 n, .string s, .int .i64 op, v5, v6]] w fun e w' => e = .returned (.tuple #[]) ∧ WK w' B g S (ScM.use s a st) ∧ Kp B true w w' := by
 obtain ⟨vi, vo, mb, ob, h⟩ := h
 cases q : ScM.has st.names s with
 | true => exact use_has h k a n op s v5 v6 hs q
 | false => exact use_not h k a n op s v5 v6 hs hm q
end Go.Proofs.Yteakhlnnepjhpaa
