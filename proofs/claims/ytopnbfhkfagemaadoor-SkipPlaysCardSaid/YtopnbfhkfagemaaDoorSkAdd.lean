/- Package skip: add: a node for a new name; rows of two cells made. -/
import Derived.Test.YtopnbfhkfagemaaDoorSkRel
import Derived.Test.YtopnbfhkfagemaaDoorLaid
import Derived.Laws.MakeOwn
namespace Go.Proofs.YtopnbfhkfagemaaDoor
open Go.RowKit
set_option linter.unusedVariables false
/-- n times the two cells. -/
def pairsOf (a b : Value) (n : Nat) : Array Value := ((List.replicate n [a, b]).flatten).toArray
theorem pairsOf_size (a b : Value) (n : Nat) : (pairsOf a b n).size = n * 2 := by
  unfold pairsOf
  induction n with
  | zero => rfl
  | succ n ih =>
    rw [List.size_toArray] at ih ⊢
    rw [List.replicate_succ, List.flatten_cons, List.length_append, ih]
    show 2 + n * 2 = _
    omega
theorem pairsOf_at {a b : Value} {n l : Nat} (h : l < n) : (pairsOf a b n)[l * 2]? = some a ∧ (pairsOf a b n)[l * 2 + 1]? = some b := by
  obtain ⟨h1, h2⟩ := pairs_at a b n l h
  exact ⟨by rw [pairsOf, List.getElem?_toArray]; exact h1, by rw [pairsOf, List.getElem?_toArray]; exact h2⟩
theorem made_pairs (a b : Value) (n : Nat) : madeCells #[a, b] (n * 2) = pairsOf a b n := by
  apply Array.ext
  · rw [size_madeCells, pairsOf_size]
  · intro j h1 h2
    rw [size_madeCells] at h1
    have e : (pairsOf a b n)[j]? = some ((madeCells #[a, b] (n * 2))[j]'(by rw [size_madeCells]; exact h1)) := by
      rcases Nat.mod_two_eq_zero_or_one j with m | m
      · have ej : j = (j / 2) * 2 := by omega
        have := (pairsOf_at (a := a) (b := b) (n := n) (l := j / 2) (by omega)).1
        rw [← ej] at this
        rw [this]
        simp [madeCells, m]
      · have ej : j = (j / 2) * 2 + 1 := by omega
        have := (pairsOf_at (a := a) (b := b) (n := n) (l := j / 2) (by omega)).2
        rw [← ej] at this
        rw [this]
        simp [madeCells, m]
    rw [Array.getElem?_eq_getElem h2] at e
    injection e with e
    exact e.symm
theorem infoL : (Tryd.prog.info? 74).map (fun i => (i.zero, i.size, i.bytes)) = some (some (.agg #[.pointer none, .int .i64 0]), 2, 16) := by kernel_rfl
theorem infoS : (Tryd.prog.info? 30).map (fun i => (i.zero, i.size, i.bytes)) = some (some (.agg #[.string ⟨#[]⟩, .int .i64 0]), 2, 24) := by kernel_rfl
theorem made_links (n : Nat) (w : World) (hn : n ≤ 1000000) : (Instr.makeSlice 66 (.int .i64 (n : Int)) (.int .i64 (n : Int))).run Tryd.prog w = .ok (.slice (some ⟨w.heap.size, 0, none⟩) n n) (w.alloc (.cells (pairsOf (.pointer none) (.int .i64 0) n) 74)) := by
  obtain ⟨i, hi, hz, h1, h2⟩ := info_parts infoL
  have h := run_make (P := Tryd.prog) w 66 74 i _ Tryd.underlying66 hi hz .i64 .i64 (n : Int) (n : Int) (by omega) (Int.le_refl _) (by rw [h2]; omega) (by omega)
  have t : ((n : Int)).toNat = n := by omega
  rw [h, t, h1]
  show Result.ok _ (w.alloc (.cells (madeCells #[_, _] (n * 2)) _)) = _
  rw [made_pairs]
theorem made_scores (n : Nat) (w : World) (hn : n ≤ 1000000) : (Instr.makeSlice 22 (.int .i64 (n : Int)) (.int .i64 (n : Int))).run Tryd.prog w = .ok (.slice (some ⟨w.heap.size, 0, none⟩) n n) (w.alloc (.cells (pairsOf (.string ⟨#[]⟩) (.int .i64 0) n) 30)) := by
  obtain ⟨i, hi, hz, h1, h2⟩ := info_parts infoS
  have h := run_make (P := Tryd.prog) w 22 30 i _ Tryd.underlying22 hi hz .i64 .i64 (n : Int) (n : Int) (by omega) (Int.le_refl _) (by rw [h2]; omega) (by omega)
  have t : ((n : Int)).toNat = n := by omega
  rw [h, t, h1]
  show Result.ok _ (w.alloc (.cells (madeCells #[_, _] (n * 2)) _)) = _
  rw [made_pairs]
theorem clone_any (s : ByteArray) (w : World) (hs : s.size ≤ lim) : Calls Tryd.prog 38 #[.string s] w fun e w' => e = .returned (.string s) ∧ Below w.heap.size w w' := by
  have H := Lib.hid (Tryd.stringslite_Clone s w (by unfold lim at hs; omega))
  go_enter Tryd.func38, Tryd.ntmps38
  go_wp2_with fail
  go_at_call 42
  refine H.out.mono ?_
  rintro e w' ⟨rfl, hb⟩
  have HB := Lib.hid hb
  clear hb
  go_wp2_with fail
  go_ret
  exact ⟨rfl, HB.out⟩
set_option maxRecDepth 20000 in
set_option maxHeartbeats 4000000 in
theorem add_walk (w : World) (q : Nat) (fp : Option Addr) (mo : Option Nat) (h : Head w q fp mo) (tz : Tz w) (gq : q ≠ 0) (s : ByteArray) (hs : s.size ≤ lim) (v : Int) :
    Calls Tryd.prog 27 #[.pointer (some ⟨q, 0, none⟩), .string s, .int .i64 v] w fun e w' => ∃ x : Nd, e = .returned (.pointer (some ⟨x.b, 0, none⟩)) ∧ x.s = s.data.toList ∧ x.v = v ∧ NdAt w' x ∧ Room w' x 0 ∧ (1 ≤ x.h ∧ x.h ≤ 20) ∧ w.heap.size ≤ x.b ∧ w.heap.size ≤ x.L ∧ x.b ≠ x.L ∧ Head w' q fp mo ∧ Only (fun k => k = q) w w' := by
  obtain ⟨n, c2⟩ := h.added
  have f2 := h.free 2
  have ql := h.lt
  have HH := Lib.hid h
  have HC2 := Lib.hid c2
  obtain ⟨n2, hn2⟩ : ∃ n2, IntKind.u64.wrap (n + 1) = n2 := ⟨_, rfl⟩
  obtain ⟨w1, hw1⟩ : ∃ w1, w.setCell ⟨q, 2, none⟩ (.int .u64 n2) = w1 := ⟨_, rfl⟩
  have t1 : Turn (fun a => a = ⟨q, 2, none⟩) w w1 := by rw [← hw1]; exact Turn.set (D := fun a => a = ⟨q, 2, none⟩) w rfl _
  have k2 : w1.cell? ⟨q, 2, none⟩ = some (.int .u64 n2) := by rw [← hw1]; exact World.cell?_setCell_same _ _ _ c2
  have h1 : Head w1 q fp mo := ⟨by rw [t1.cell _ ql (fun e => by injection e with _ e _; cases e), h.front], by rw [t1.cell _ ql (fun e => by injection e with _ e _; cases e), h.scores], ⟨n2, k2⟩, fun i => by rw [t1.frozen _ ql, h.free]⟩
  have tz1 : Tz w1 := tz.same (t1.block _ tz.lt fun a ha e => gq (by rw [← ha, e]))
  have TZ1 := Lib.hid tz1
  have H1 := Lib.hid h1
  have T1 := Lib.hid t1
  have HS := Lib.hid hs
  clear h tz tz1 h1 t1 hs gq
  go_enter Tryd.func27, Tryd.ntmps27
  go_wp2_with fail
  go_at_call 38
  refine (clone_any s w1 HS.out).mono ?_
  rintro e w2 ⟨rfl, hb2⟩
  have B2 := Lib.hid hb2
  have q2 : w2.cell? ⟨q, 2, none⟩ = some (.int .u64 n2) := (hb2.cell (p := ⟨q, 2, none⟩) H1.out.lt).trans k2
  have far : ∀ o, Below w2.heap.size w2 (w2.alloc o) := fun o => (Below.refl _ w2).alloc (Nat.le_refl _) o
  have q3 : ∀ o, (w2.alloc o).cell? ⟨q, 2, none⟩ = some (.int .u64 n2) := fun o => ((far o).cell (p := ⟨q, 2, none⟩) (cell_in q2)).trans q2
  clear hb2 q2 far
  go_wp2_with fail
  obtain ⟨w3, hw3⟩ : ∃ w3, w2.alloc (.cells #[.string s, .int .i64 v] 30) = w3 := ⟨_, rfl⟩
  have al3 : Below w2.heap.size w2 w3 := by rw [← hw3]; exact (Below.refl _ w2).alloc (Nat.le_refl _) _
  have e0 : w3.cell? ⟨w2.heap.size, 0, none⟩ = some (.string s) := by rw [← hw3, World.cell?_alloc_new]; rfl
  have e1 : w3.cell? ⟨w2.heap.size, 1, none⟩ = some (.int .i64 v) := by rw [← hw3, World.cell?_alloc_new]; rfl
  have q3' : w3.cell? ⟨q, 2, none⟩ = some (.int .u64 n2) := by rw [← hw3]; exact q3 _
  have KEEP : Hid (∀ W, Below w3.heap.size w3 W → W.cell? ⟨w2.heap.size, 0, none⟩ = some (.string s) ∧ W.cell? ⟨w2.heap.size, 1, none⟩ = some (.int .i64 v) ∧ W.cell? ⟨q, 2, none⟩ = some (.int .u64 n2) ∧ Tz W) := fun W hW =>
    ⟨(hW.cell (p := ⟨w2.heap.size, 0, none⟩) (cell_in e0)).trans e0, (hW.cell (p := ⟨w2.heap.size, 1, none⟩) (cell_in e1)).trans e1, (hW.cell (p := ⟨q, 2, none⟩) (cell_in q3')).trans q3', ((TZ1.out.below B2.out).below al3).below hW⟩
  have AL3 := Lib.hid al3
  rw [hw3]
  clear hw3 al3 e0 e1 q3 q3' c2 f2
  refine wp_region_held_drew (S := fun W => Below w3.heap.size w3 W) (by kernel_rfl) ((Below.refl _ w3).drew) (fun hHeld => ?_)
  refine wpAnyH_take (i := 0) (v := ?_) rfl (by kernel_rfl) (by kernel_rfl) (by kernel_rfl) (fun _ _ _ h => h) (Or.inl ⟨by rfl, ?_⟩) hHeld ?_
  rotate_left
  · intro W hSw; obtain ⟨y0, y1, y2, y3⟩ := KEEP.out W hSw; go_simp; try with_reducible rfl
  refine wpAnyH_take (i := 1) (v := ?_) rfl (by kernel_rfl) (by kernel_rfl) (by kernel_rfl) (fun _ _ _ h => h) (Or.inl ⟨by rfl, ?_⟩) hHeld ?_
  rotate_left
  · intro W hSw; obtain ⟨y0, y1, y2, y3⟩ := KEEP.out W hSw; go_simp; try with_reducible rfl
  refine wpAnyH_take (i := 2) (v := ?_) rfl (by kernel_rfl) (by kernel_rfl) (by kernel_rfl) (fun _ _ _ h => h) (Or.inl ⟨by rfl, ?_⟩) hHeld ?_
  rotate_left
  · intro W hSw; obtain ⟨y0, y1, y2, y3⟩ := KEEP.out W hSw; go_simp; try with_reducible rfl
  refine wpAnyH_take (i := 3) (v := ?_) rfl (by kernel_rfl) (by kernel_rfl) (by kernel_rfl) (fun _ _ _ h => h) (Or.inl ⟨by rfl, ?_⟩) hHeld ?_
  rotate_left
  · intro W hSw; obtain ⟨y0, y1, y2, y3⟩ := KEEP.out W hSw; go_simp; try with_reducible rfl
  refine wpAnyH_take (i := 4) (v := ?_) rfl (by kernel_rfl) (by kernel_rfl) (by kernel_rfl) (fun _ _ _ h => h) (Or.inl ⟨by rfl, ?_⟩) hHeld ?_
  rotate_left
  · intro W hSw; obtain ⟨y0, y1, y2, y3⟩ := KEEP.out W hSw; go_simp; try with_reducible rfl
  refine wpAnyH_ready (rs := [5]) (by kernel_rfl) (by simp) ?_
  refine AllReadyH.cons rfl (fun K hK => ?_) AllReadyH.nil
  go_simp
  go_at_call 39
  refine (height_any _ n2 (KEEP.out _ ((Below.refl _ w3).drew)).2.2.2).mono ?_
  rintro e w5 ⟨⟨k, rfl, k1, k20⟩, hb5⟩
  have BW5 : Hid (Below w3.heap.size w3 w5) := below_then ((Below.refl _ w3).drew) hb5
  have HK := Lib.hid (And.intro k1 k20)
  have mk := made_links k w5 (by omega)
  obtain ⟨z, hz⟩ : ∃ z, pairsOf (.pointer none) (.int .i64 0) k = z := ⟨_, rfl⟩
  have HZ := Lib.hid hz
  rw [hz] at mk
  have b6 : Below w5.heap.size w5 (w5.alloc (.cells z 74)) := (Below.refl _ w5).alloc (Nat.le_refl _) _
  have BW6 : Hid (Below w3.heap.size w3 (w5.alloc (.cells z 74))) := below_then BW5.out b6
  refine hK.out _ _ BW5.out (fun hHeld1 => ?_)
  clear hK K hHeld hb5 k1 k20 hz b6
  refine wpAnyH_ready (rs := [6]) (by kernel_rfl) (by simp) ?_
  refine AllReadyH.cons rfl (fun K hK => ?_) AllReadyH.nil
  go_simp
  refine hK.out _ _ BW6.out (fun hHeld2 => ?_)
  clear hK K hHeld1 mk
  refine wpAnyH_take (i := 7) (v := ?_) rfl (by kernel_rfl) (by kernel_rfl) (by kernel_rfl) (fun _ _ _ h => h) (Or.inl ⟨by rfl, ?_⟩) hHeld2 ?_
  rotate_left
  · intro W hSw; obtain ⟨y0, y1, y2, y3⟩ := KEEP.out W hSw; go_simp; try with_reducible rfl
  refine wpAnyH_ready (rs := [8]) (by kernel_rfl) (by simp) ?_
  refine AllReadyH.cons rfl (fun K hK => ?_) AllReadyH.nil
  go_simp
  have b7 : Below (w5.alloc (.cells z 74)).heap.size (w5.alloc (.cells z 74)) ((w5.alloc (.cells z 74)).alloc (.cells #[.string s, .int .i64 v, .slice (some ⟨w5.heap.size, 0, none⟩) k k] 68)) := (Below.refl _ _).alloc (Nat.le_refl _) _
  refine hK.out _ _ (below_then BW6.out b7) (fun hHeld3 => ?_)
  clear hK K hHeld2
  refine wpAnyH_take (i := 9) (v := ?_) rfl (by kernel_rfl) (by kernel_rfl) (by kernel_rfl) (fun _ _ _ h => h) (Or.inl ⟨by rfl, ?_⟩) hHeld3 ?_
  rotate_left
  · intro W hSw; obtain ⟨y0, y1, y2, y3⟩ := KEEP.out W hSw; go_simp; try with_reducible rfl
  refine wpAnyH_done (by kernel_rfl) ?_ _
  clear hHeld3
  go_wp2_with fail
  go_ret
  have sz : (w5.alloc (.cells z 74)).heap.size = w5.heap.size + 1 := by simp
  have hz2 : z.size = k * 2 := by rw [← HZ.out, pairsOf_size]
  have le5 : w.heap.size ≤ w5.heap.size := Nat.le_trans T1.out.size (Nat.le_trans B2.out.size (Nat.le_trans AL3.out.size BW5.out.size))
  obtain ⟨w8, hw8⟩ : ∃ w8, (w5.alloc (.cells z 74)).alloc (.cells #[.string s, .int .i64 v, .slice (some ⟨w5.heap.size, 0, none⟩) k k] 68) = w8 := ⟨_, rfl⟩
  have cn : ∀ i, w8.cell? ⟨w5.heap.size + 1, i, none⟩ = (#[.string s, .int .i64 v, .slice (some ⟨w5.heap.size, 0, none⟩) k k] : Array Value)[i]? := fun i => by rw [← hw8, ← sz, World.cell?_alloc_new]
  have fn : ∀ i, w8.frozen? ⟨w5.heap.size + 1, i, none⟩ = false := fun i => by rw [← hw8, ← sz]; exact World.frozen?_alloc_new _ _ _ _
  have hl : w8.heap[w5.heap.size]? = some (.cells z 74 (0, 0)) := by rw [← hw8]; exact heap_alloc2_old _ _ _
  have s8 : w8.heap.size = w5.heap.size + 2 := by rw [← hw8]; simp
  have bb : Below w1.heap.size w1 w8 := by rw [← hw8]; exact below_then B2.out (below_then AL3.out (below_then BW6.out b7))
  rw [hw8]
  refine ⟨⟨w5.heap.size + 1, w5.heap.size, s.data.toList, v, k⟩, by first | rfl | simp, rfl, rfl, ⟨cn 0, cn 1, cn 2, fn, by rw [s8]; show w5.heap.size + 1 < _; omega, fun i => by show w8.frozen? ⟨w5.heap.size, i, none⟩ = false; simp [World.frozen?, hl], by rw [s8]; show w5.heap.size < _; omega⟩, fun l _ hlk => ?_, HK.out, Nat.le_succ_of_le le5, le5, Nat.succ_ne_self _, H1.out.same (bb.block _ H1.out.lt), (T1.out.only (F := fun k => k = q) fun a e => by rw [e]).trans (Only.of_below (F := fun _ => False) bb) fun _ f => f.elim⟩
  have hp := pairsOf_at (a := .pointer none) (b := .int .i64 0) (n := k) (l := l) hlk
  rw [HZ.out] at hp
  exact ⟨_, _, (cell_of_row w8 w5.heap.size _ _ _ _ hl).trans hp.1, (cell_of_row w8 w5.heap.size _ _ _ _ hl).trans hp.2⟩
end Go.Proofs.YtopnbfhkfagemaaDoor
