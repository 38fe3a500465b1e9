/- Package scope: the stack: leave. -/
import Derived.Test.YteakhlnnepjhpaaScCx
import Derived.Test.YteakhlnnepjhpaaTcRx
namespace Go.Proofs.Yteakhlnnepjhpaa
open Go.RowKit
set_option linter.unusedVariables false
set_option linter.unusedSimpArgs false
section
variable {w w1 w2 : World} {B g mb ob N c : Nat} {vi vo : Value} {S : List It} {st st' : ScM.Sc} {it : It} {a : Addr}
/-- The last item of a row: where it lies; the row without it. -/
theorem own_last (h : w.ownsRow B 99 4 vi (S ++ [it]).length (icells (S ++ [it]))) : ∃ a c, vi = .slice (some a) (S ++ [it]).length c ∧ (S ++ [it]).length ≤ c ∧
  (w.cell? (a.add (S.length * 4)) = some (.int .i64 it.kind) ∧ w.cell? ⟨(a.add (S.length * 4)).block, (a.add (S.length * 4)).off + 1, none⟩ = some (.string it.name) ∧ w.cell? ⟨(a.add (S.length * 4)).block, (a.add (S.length * 4)).off + 2, none⟩ = some (.int .i64 it.own) ∧ w.cell? ⟨(a.add (S.length * 4)).block, (a.add (S.length * 4)).off + 3, none⟩ = some (.int .i64 it.loops)) ∧
  ∀ w' : World, w'.heap[a.block]? = w.heap[a.block]? → w'.ownsRow B 99 4 (.slice (some a) S.length c) S.length (icells S) := by
 have hc : ∀ g, vi.ownBlock = some g → ∀ i y, (icells (S ++ [it]))[i]? = some y → w.cell? ((⟨g, 0, none⟩ : Addr).add i) = some y := fun g e => by
  rcases h.2 with ⟨rfl, h0⟩ | ⟨q, cap, cur, rfl, hp, hb, r⟩
  ·cases e
  ·obtain rfl : q = g := Option.some.inj e
   exact h.cells rfl
 rcases h.2 with ⟨rfl, h0⟩ | ⟨q, cap, cur, rfl, hp, hb, h1, h2, h3, h4⟩
 ·simp at h0
 ·have hat : ∀ j y, (ics it).toList[j]? = some y → w.cell? ((⟨q, 0, none⟩ : Addr).add (S.length * 4 + j)) = some y := fun j y hj => hc q rfl _ y (by
   rw [icells_append, List.getElem?_append_right (by rw [icells_length]; omega), icells_length, Nat.add_sub_cancel_left]
   simp only [icells, List.append_nil]
   exact hj)
  refine ⟨⟨q, 0, none⟩, cap, rfl, h1, ⟨hat 0 _ rfl, by rw [add_off]; exact hat 1 _ rfl, by rw [add_off]; exact hat 2 _ rfl, by rw [add_off]; exact hat 3 _ rfl⟩, fun w' hw => ⟨icells_length S, .inr ⟨q, cap, cur, rfl, hp, hw.trans hb, ?_, h2, h3, ?_⟩⟩⟩
  ·rw [List.length_append] at h1; omega
  ·have e : (icells (S ++ [it])).take (S.length * 4) = icells S := by
    rw [icells_append, ← icells_length S]
    exact List.take_left
   rw [← e, ← h4, List.take_take, Nat.min_eq_left (by rw [List.length_append]; omega)]
/-- The last item has been taken. -/
theorem WR.shrink (h : WR w B g vi vo mb ob (S ++ [it]) st) (ha : vi = .slice (some a) N c) (own : ∀ w' : World, w'.heap[a.block]? = w.heap[a.block]? → w'.ownsRow B 99 4 (.slice (some a) S.length c) S.length (icells S)) (b1 : Below w.heap.size w w1)
  (o : Only (fun b => b = g ∨ b = mb) w1 w2) (b : Blk w2 g (wcs (.slice (some a) S.length c) vo mb ob st') 62) (hc : Cnt w2 mb st'.ct (vis S)) (hv : vis S = st'.names) (hsh : ∀ s ∈ st'.names, s.size ≤ maxLen)
  (e3 : st'.outer = st.outer) (e4 : st.ct ≤ st'.ct) (e5 : st'.own ≤ st'.ct) (e6 : st'.loops ≤ st'.ct) (e7 : st'.ct ≤ 1000000000000) : WR w2 B g (.slice (some a) S.length c) vo mb ob S st' ∧ Kp B false w w2 := by
 subst ha
 have s1 : ∀ q, q < w.heap.size → q ≠ g → q ≠ mb → w2.heap[q]? = w.heap[q]? := fun q l m k => (o.block q (by have := b1.size; omega) (by omega)).trans (b1.block q l)
 have hi := h.items
 refine ⟨⟨b, own _ (s1 _ (own_lt hi _ rfl).2 (fun e => own_blk hi h.blk (by decide) (by rw [← e]; rfl)) (fun e => own_map hi h.cnt (by rw [← e]; rfl))), hc, ?_, ?_, h.hg, h.hm, h.ho, h.ne, hv, ?_, by rw [e3]; have := h.olen; omega, e5, e6, hsh, e7⟩, ⟨?_, fun q cs ty k x y _ => ?_⟩⟩
 ·rw [e3]; exact own_same h.outer fun q e => s1 q (own_lt h.outer q e).2 (fun x => own_blk h.outer h.blk (by decide) (x ▸ e)) (fun x => own_map h.outer h.cnt (x ▸ e))
 ·rw [e3]; exact (h.out.same (s1 ob h.out.lt (out_blk h.out h.blk) (fun e => h.ne e.symm))).wide e4
 ·have := h.len; rw [List.length_append] at this; simp only [List.length_cons, List.length_nil] at this; omega
 ·exact (b1.mono h.base).trans (o.below (B := B) (fun n e => by rcases e with rfl | rfl; exact h.hg; exact h.hm) (by have := h.base; have := b1.size; omega))
 ·refine (s1 q k.lt (fun e => ?_) fun e => map_blk h.cnt k e.symm).trans k
  subst e
  have a : w.heap[q]? = _ := h.blk
  have k : w.heap[q]? = _ := k
  rw [a] at k
  injection k with k
  injection k with _ k
  exact y k.symm
end
def lenAt (w : World) (g : Nat) : Nat := match w.cell? ⟨g, 0, none⟩ with | some (.slice _ n _) => n | _ => 0
theorem lenAt_of {w : World} {B g mb ob n c : Nat} {A : Option Addr} {vo : Value} {S : List It} {st : ScM.Sc} (h : WR w B g (.slice A n c) vo mb ob S st) : lenAt w g = n := by
 have k := h.blk.eight.1.1
 unfold lenAt
 rw [k]
theorem cells2 {w : World} {g mb : Nat} {a : Value} {o : Obj} (h : mb ≠ g) (l : mb < w.heap.size) : ((w.setCell ⟨g, 0, none⟩ a).alloc o).heap[mb]? = w.heap[mb]? :=
 (((Below.refl _ (w.setCell ⟨g, 0, none⟩ a)).alloc (Nat.le_refl _) o).block mb (by rw [World.size_setCell]; exact l)).trans (Below.heap_setCell _ _ _ mb h)
theorem cells3 {w : World} {g mb : Nat} {a b : Value} {o : Obj} (h : mb ≠ g) (l : mb < w.heap.size) : (((w.setCell ⟨g, 0, none⟩ a).setCell ⟨g, 3, none⟩ b).alloc o).heap[mb]? = w.heap[mb]? :=
 (((Below.refl _ ((w.setCell ⟨g, 0, none⟩ a).setCell ⟨g, 3, none⟩ b)).alloc (Nat.le_refl _) o).block mb (by rw [World.size_setCell, World.size_setCell]; exact l)).trans ((Below.heap_setCell _ _ _ mb h).trans (Below.heap_setCell _ _ _ mb h))
theorem cells4 {w : World} {g mb : Nat} {a b d : Value} {o : Obj} (h : mb ≠ g) (l : mb < w.heap.size) : ((((w.setCell ⟨g, 0, none⟩ a).setCell ⟨g, 2, none⟩ b).setCell ⟨g, 3, none⟩ d).alloc o).heap[mb]? = w.heap[mb]? :=
 (((Below.refl _ (((w.setCell ⟨g, 0, none⟩ a).setCell ⟨g, 2, none⟩ b).setCell ⟨g, 3, none⟩ d)).alloc (Nat.le_refl _) o).block mb (by rw [World.size_setCell, World.size_setCell, World.size_setCell]; exact l)).trans ((Below.heap_setCell _ _ _ mb h).trans ((Below.heap_setCell _ _ _ mb h).trans (Below.heap_setCell _ _ _ mb h)))
set_option maxRecDepth 20000 in
set_option maxHeartbeats 4000000 in
/-- leave. -/
theorem leave_s {w : World} {B g : Nat} {S : List It} {st : ScM.Sc} {k : Int} {o p : Nat} {ds : List ByteArray} (h : WK w B g (S ++ [⟨k, ⟨#[]⟩, o, p⟩] ++ ds.map nm) st) (hk : k = 1 ∨ k = 2 ∨ k = 3) (ho : o ≤ st.ct) (hp : p ≤ st.ct) (hd : ds.length ≤ st.own) (hl : k = 2 → 1 ≤ st.loops) :
  Calls Try.prog 42 #[.pointer (some ⟨g, 0, none⟩)] w fun e w' => e = .returned (.tuple #[]) ∧ WK w' B g S { st with names := vis S, own := if k = 3 then o else st.own - ds.length, loops := if k = 2 then st.loops - 1 else if k = 3 then p else st.loops } ∧ Kp B false w w' := by
 obtain ⟨m, hm⟩ : ∃ m, ds.length = m := ⟨_, rfl⟩
 rw [hm] at hd ⊢
 have H0 := Lib.hid h
 have HK := Lib.hid hk
 have HO := Lib.hid ho
 have HP := Lib.hid hp
 have HD := Lib.hid hd
 have HL := Lib.hid hl
 have HM := Lib.hid hm
 clear h hk ho hp hd hl hm
 go_enter Try.func42, Try.ntmps42
 go_wp2_with fail
 refine wp_scope_straight (wp_seq (wp_label ?_))
 simp only [Exit.then]
 go_wp2_with fail
 go_loopw [2, 3] (fun u2 u3 wr => ∃ (r : Nat) (v2 v3 : Value), u2 = v2 ∧ u3 = v3 ∧ r ≤ m ∧ WK wr B g (S ++ [⟨k, ⟨#[]⟩, o, p⟩] ++ (ds.take r).map nm) { st with names := vis S ++ ds.take r, own := st.own - (m - r) } ∧ Kp B false w wr) (fun _ _ wr => lenAt wr g)
 case atStart =>
  refine ⟨m, undef, undef, rfl, rfl, Nat.le_refl _, ?_, Kp.refl _ _ _⟩
  obtain ⟨vi, vo, mb, ob, hh⟩ := H0.out
  have e : ds.take m = ds := List.take_of_length_le (by rw [HM.out]; exact Nat.le_refl _)
  have e2 : ({ st with names := vis S ++ ds, own := st.own - (m - m) } : ScM.Sc) = st := by
   have kn := hh.names
   rw [vis_append, vis_append, vis_nm, show vis [(⟨k, ⟨#[]⟩, o, p⟩ : It)] = [] by have := HK.out; simp [vis]; omega, List.append_nil] at kn
   rw [kn, Nat.sub_self, Nat.sub_zero]
  rw [e, e2]
  exact H0.out
 case round =>
  obtain ⟨r, v2, v3, rfl, rfl, hr, ⟨vi, vo, mb, ob, hh⟩, hkp⟩ := hrel
  have KP := Lib.hid hkp
  have hgl := hh.blk.lt
  cases r with
  | zero =>
   rw [List.take_zero, List.map_nil, List.append_nil, List.append_nil, Nat.sub_zero] at hh
   obtain ⟨st1, hst1⟩ : ∃ st1, ({ st with names := vis S, own := st.own - m } : ScM.Sc) = st1 := ⟨_, rfl⟩
   rw [hst1] at hh
   obtain ⟨a, c, rfl, hNc, ⟨k0, k1, k2, k3⟩, ok⟩ := own_last hh.items
   have H := Lib.hid hh
   have OK := Lib.hid ok
   obtain ⟨N, hN⟩ : ∃ N, (S ++ [(⟨k, ⟨#[]⟩, o, p⟩ : It)]).length = N := ⟨_, rfl⟩
   obtain ⟨M, hM⟩ : ∃ M, S.length = M := ⟨_, rfl⟩
   rw [hM] at k0 k1 k2 k3
   dsimp only at k0 k1 k2 k3
   have hNM : N = M + 1 := by rw [← hN, ← hM, List.length_append]; rfl
   rw [hN] at hNc
   obtain ⟨⟨c0, c1, c2, c3, c4, c5, c6, c7⟩, f0, f1, f2, f3, f4, f5, f6, f7⟩ := hh.blk.eight
   rw [hN] at c0
   have le := Nat.le_trans hh.len hh.max
   rw [hN] at le
   have wM : wrap64 ((N : Int) - 1) = (M : Int) := by unfold wrap64; omega
   have m0 : (0 : Int) ≤ (M : Int) := by omega
   have m1 : (M : Int) < (N : Int) := by omega
   have m2 : (N : Int) ≤ (c : Int) := by omega
   have E2 := Lib.hid hst1
   have HM1 := Lib.hid hM
   have HK2 := Lib.hid HK.out
   have wl : k = 2 → wrap64 ((st1.loops : Int) - 1) = ((st1.loops - 1 : Nat) : Int) := fun e => by
    have h1 := HL.out e
    have e2 : st1.loops = st.loops := by rw [← hst1]
    have h2 := hh.loops
    have h3 := hh.max
    unfold wrap64
    omega
   have WL := Lib.hid wl
   have O5 := Lib.hid (((Only.refl (fun b => b = g ∨ b = mb) wr).setCell (p := ⟨g, 0, none⟩) (.inl (.inl rfl)) (.slice (some a) M c)).alloc (.cells #[.int .i64 k, .string ⟨#[]⟩, .int .i64 (o : Int), .int .i64 (p : Int)] 99))
   have B5 : Hid (Blk ((wr.setCell ⟨g, 0, none⟩ (.slice (some a) M c)).alloc (.cells #[.int .i64 k, .string ⟨#[]⟩, .int .i64 (o : Int), .int .i64 (p : Int)] 99)) g (wcs (.slice (some a) M c) vo mb ob st1) 62) := Lib.hid (blk_al _ (blkW0 hh.blk _))
   have CN : Hid (Cnt wr mb st1.ct (vis S)) := Lib.hid (by
    have e : vis [(⟨k, ⟨#[]⟩, o, p⟩ : It)] = [] := by have := HK.out; simp [vis]; omega
    have kc := hh.cnt
    rwa [vis_append, e, List.append_nil] at kc)
   have C5 : Hid (Cnt ((wr.setCell ⟨g, 0, none⟩ (.slice (some a) M c)).alloc (.cells #[.int .i64 k, .string ⟨#[]⟩, .int .i64 (o : Int), .int .i64 (p : Int)] 99)) mb st1.ct (vis S)) := Lib.hid (CN.out.same (cells2 (map_blk hh.cnt hh.blk) hh.cnt.lt))
   clear hh ok hkp hr hst1 hN hM hNM le hNc wl
   have SH := Lib.hid (fun x (hx : x ∈ vis S) => H.out.short x (by rw [← E2.out]; exact hx))
   rcases HK2.out with rfl | rfl | rfl
   ·go_wp2_with fail
    go_end0
    have hM := HM1.out
    subst hM
    have R9 := H.out.shrink (st' := { st1 with names := vis S }) rfl OK.out (Below.refl _ _) O5.out B5.out C5.out rfl SH.out rfl (Nat.le_refl _) H.out.own H.out.loops H.out.max
    rw [← E2.out] at R9
    exact ⟨rfl, ⟨_, _, _, _, R9.1⟩, KP.out.trans R9.2⟩
   ·have wl2 := WL.out rfl
    go_wp2_with fail
    go_end0
    have hM := HM1.out
    subst hM
    have o6 := (((Only.refl (fun b => b = g ∨ b = mb) wr).setCell (p := ⟨g, 0, none⟩) (.inl (.inl rfl)) (.slice (some a) S.length c)).setCell (p := ⟨g, 3, none⟩) (.inl (.inl rfl)) (.int .i64 ((st1.loops - 1 : Nat) : Int))).alloc (.cells #[.int .i64 2, .string ⟨#[]⟩, .int .i64 (o : Int), .int .i64 (p : Int)] 99)
    have R9 := H.out.shrink (st' := { st1 with names := vis S, loops := st1.loops - 1 }) rfl OK.out (Below.refl _ _) o6 (blk_al _ (blkW3 (blkW0 H.out.blk _) _)) (CN.out.same (cells3 (a := .slice (some a) S.length c) (b := .int .i64 ((st1.loops - 1 : Nat) : Int)) (map_blk H.out.cnt H.out.blk) H.out.cnt.lt)) rfl SH.out rfl (Nat.le_refl _) H.out.own (Nat.le_trans (Nat.sub_le _ _) H.out.loops) H.out.max
    have es : ({ st with names := vis S, own := st.own - m, loops := st.loops - 1 } : ScM.Sc) = { st1 with names := vis S, loops := st1.loops - 1 } := by rw [← E2.out]
    refine ⟨rfl, ?_, KP.out.trans R9.2⟩
    show WK _ B g S ({ st with names := vis S, own := st.own - m, loops := st.loops - 1 } : ScM.Sc)
    rw [es]
    exact ⟨_, _, _, _, R9.1⟩
   ·go_wp2_with fail
    go_region
    go_wp2_with fail
    simp only [Exit.noGoto]
    go_end0
    have hM := HM1.out
    subst hM
    have o6 := ((((Only.refl (fun b => b = g ∨ b = mb) wr).setCell (p := ⟨g, 0, none⟩) (.inl (.inl rfl)) (.slice (some a) S.length c)).setCell (p := ⟨g, 2, none⟩) (.inl (.inl rfl)) (.int .i64 (o : Int))).setCell (p := ⟨g, 3, none⟩) (.inl (.inl rfl)) (.int .i64 (p : Int))).alloc (.cells #[.int .i64 3, .string ⟨#[]⟩, .int .i64 (o : Int), .int .i64 (p : Int)] 99)
    have R9 := H.out.shrink (st' := { st1 with names := vis S, own := o, loops := p }) rfl OK.out (Below.refl _ _) o6.drew (blk_al _ (blkW3 (blkW2 (blkW0 H.out.blk _) _) _)) (CN.out.same (cells4 (a := .slice (some a) S.length c) (b := .int .i64 (o : Int)) (d := .int .i64 (p : Int)) (map_blk H.out.cnt H.out.blk) H.out.cnt.lt)) rfl SH.out rfl (Nat.le_refl _) (by rw [← E2.out]; exact HO.out) (by rw [← E2.out]; exact HP.out) H.out.max
    rw [← E2.out] at R9
    exact ⟨rfl, ⟨_, _, _, _, R9.1⟩, KP.out.trans R9.2⟩
  | succ r =>
   have hrd : r < ds.length := by rw [HM.out]; exact hr
   obtain ⟨s, hs⟩ : ∃ s, ds[r] = s := ⟨_, rfl⟩
   have TK : ds.take (r + 1) = ds.take r ++ [s] := by rw [List.take_add_one, List.getElem?_eq_getElem hrd, hs]; rfl
   rw [TK, List.map_append, ← List.append_assoc] at hh
   obtain ⟨S1, hS1⟩ : ∃ S1, S ++ [⟨k, ⟨#[]⟩, o, p⟩] ++ (ds.take r).map nm = S1 := ⟨_, rfl⟩
   rw [hS1, show [s].map nm = [nm s] from rfl] at hh
   obtain ⟨st1, hst1⟩ : ∃ st1, ({ st with names := vis S ++ (ds.take r ++ [s]), own := st.own - (m - (r + 1)) } : ScM.Sc) = st1 := ⟨_, rfl⟩
   rw [hst1] at hh
   have hi := hh.items
   obtain ⟨a, c, rfl, hNc, ⟨k0, k1, k2, k3⟩, ok⟩ := own_last hh.items
   have H := Lib.hid hh
   have OK := Lib.hid ok
   obtain ⟨N, hN⟩ : ∃ N, (S1 ++ [nm s]).length = N := ⟨_, rfl⟩
   obtain ⟨M, hM⟩ : ∃ M, S1.length = M := ⟨_, rfl⟩
   rw [hM] at k0 k1 k2 k3
   rw [show (nm s).kind = 0 from rfl] at k0
   rw [show (nm s).name = s from rfl] at k1
   rw [show (nm s).own = 0 from rfl] at k2
   rw [show (nm s).loops = 0 from rfl] at k3
   have hNM : N = M + 1 := by rw [← hN, ← hM, List.length_append]; rfl
   rw [hN] at hNc
   obtain ⟨⟨c0, c1, c2, c3, c4, c5, c6, c7⟩, f0, f1, f2, f3, f4, f5, f6, f7⟩ := hh.blk.eight
   rw [hN] at c0
   have le := Nat.le_trans hh.len hh.max
   rw [hN] at le
   have wM : wrap64 ((N : Int) - 1) = (M : Int) := by unfold wrap64; omega
   have m0 : (0 : Int) ≤ (M : Int) := by omega
   have m1 : (M : Int) < (N : Int) := by omega
   have m2 : (N : Int) ≤ (c : Int) := by omega
   have SZ := Lib.hid (show s.size ≤ maxLen from hh.short s (by rw [← hst1]; simp))
   have E1 := Lib.hid hS1
   have E2 := Lib.hid hst1
   have HM1 := Lib.hid hM
   have HN1 := Lib.hid hN
   have HR := Lib.hid hr
   obtain ⟨u, hu⟩ : ∃ u, cntB (vis S1) s.data.toList = u := ⟨_, rfl⟩
   have CV : cntB (vis (S1 ++ [nm s])) s.data.toList = u + 1 := by rw [vis_append, cntB_append, hu, show vis [nm s] = [s] from rfl, cntB_one, if_pos rfl]
   have EQ := Lib.hid (fun t : List UInt8 => show cntB (vis S1) t = if s.data.toList = t then u else cntB (vis (S1 ++ [nm s])) t by
    rw [vis_append, show vis [nm s] = [s] from rfl, cntB_append, cntB_one]
    split
    ·rename_i e; rw [← e, hu]
    ·rfl)
   have ule : u ≤ M := by have := cntB_le (vis S1) s.data.toList; have := vis_le S1; omega
   have wu : wrap64 (u : Int) = (u : Int) := by unfold wrap64; omega
   have ow1 : 1 ≤ st1.own := by rw [← hst1]; have := HD.out; show 1 ≤ st.own - (m - (r + 1)); omega
   have wo : wrap64 ((st1.own : Int) - 1) = ((st1.own - 1 : Nat) : Int) := by have := hh.own; have := hh.max; unfold wrap64; omega
   have O5 := Lib.hid ((((Only.refl (fun b => b = g ∨ b = mb) wr).setCell (p := ⟨g, 0, none⟩) (.inl (.inl rfl)) (.slice (some a) M c)).alloc (.cells #[.int .i64 0, .string s, .int .i64 0, .int .i64 0] 99)).drew)
   have B5 : Hid (Blk (((wr.setCell ⟨g, 0, none⟩ (.slice (some a) M c)).alloc (.cells #[.int .i64 0, .string s, .int .i64 0, .int .i64 0] 99)).drew) g (wcs (.slice (some a) M c) vo mb ob st1) 62) := Lib.hid (blk_al _ (blkW0 hh.blk _))
   have C5 : Cnt (((wr.setCell ⟨g, 0, none⟩ (.slice (some a) M c)).alloc (.cells #[.int .i64 0, .string s, .int .i64 0, .int .i64 0] 99)).drew) mb st1.ct (vis (S1 ++ [nm s])) := hh.cnt.same ((((Below.refl _ (wr.setCell ⟨g, 0, none⟩ (.slice (some a) M c))).alloc (Nat.le_refl _) _).block mb (by rw [World.size_setCell]; exact hh.cnt.lt)).trans (Below.heap_setCell _ _ _ mb (map_blk hh.cnt hh.blk)))
   have L5 := C5.look s SZ.out
   rw [CV, show ((u + 1 : Nat) : Int) = (u : Int) + 1 from rfl] at L5
   obtain ⟨w6, r6, k6, g6⟩ := C5.again (l' := vis S1) s SZ.out (Nat.lt_of_le_of_lt hh.max (by decide)) u (by rw [CV]; exact Nat.succ_pos _) EQ.out
   rw [← wu] at r6
   clear wu
   have K6 := Lib.hid k6
   have G6 := Lib.hid g6
   have B6 := Lib.hid (B5.out.grown g6 (fun e => map_blk hh.cnt hh.blk (Option.some.inj e)))
   obtain ⟨⟨x0, x1, x2, x3, x4, x5, x6, x7⟩, y0, y1, y2, y3, y4, y5, y6, y7⟩ := B6.out.eight
   clear hh ok hi hkp hr hrd hs TK hst1 hS1 hN hM hNM le hNc hu CV ule ow1 C5 k6 g6
   go_wp2_with fail
   go_region
   go_wp2_with fail
   have hM := HM1.out
   subst hM
   have o7 := (O5.out.trans (G := fun b => b = mb) ⟨G6.out.os, G6.out.tape, G6.out.output, G6.out.size, fun k hk hne => G6.out.block k hk (fun e => hne (Option.some.inj e))⟩ (fun k e => .inl (.inr e))).setCell (p := ⟨g, 2, none⟩) (.inl (.inl rfl)) (.int .i64 ((st1.own - 1 : Nat) : Int))
   have vs : vis S1 = vis S ++ ds.take r := by
    have e : vis [(⟨k, ⟨#[]⟩, o, p⟩ : It)] = [] := by have := HK.out; simp [vis]; omega
    rw [← E1.out, vis_append, vis_append, vis_nm, e, List.append_nil]
   have R9 := H.out.shrink (st' := { st1 with names := vis S1, own := st1.own - 1 }) rfl OK.out (Below.refl _ _) o7 (blkW2 B6.out _) (K6.out.same (Below.heap_setCell _ _ _ mb (map_blk H.out.cnt H.out.blk))) rfl (fun x hx => H.out.short x (by rw [← H.out.names, vis_append]; exact List.mem_append_left _ hx)) rfl (Nat.le_refl _) (Nat.le_trans (Nat.sub_le _ _) H.out.own) H.out.loops H.out.max
   have es : ({ st1 with names := vis S1, own := st1.own - 1 } : ScM.Sc) = { st with names := vis S ++ ds.take r, own := st.own - (m - r) } := by
    rw [← E2.out, vs]
    have := HR.out
    simp only [ScM.Sc.mk.injEq, true_and, and_true]
    omega
   rw [es, ← E1.out] at R9
   refine ⟨⟨r, _, _, rfl, rfl, Nat.le_of_succ_le HR.out, ⟨_, _, _, _, R9.1⟩, KP.out.trans R9.2⟩, ?_⟩
   rw [lenAt_of R9.1, lenAt_of H.out, E1.out, List.length_append]
   exact Nat.lt_succ_self _
end Go.Proofs.Yteakhlnnepjhpaa
