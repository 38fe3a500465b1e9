/- slices.Insert of one element, at a row of rows: in the room that is there, or in a new row. -/
import Derived.Test.YteghokakjonblaaChHeap
namespace Go.Proofs.Yteghokakjonblaa.insC
open Go.RowKit Go.Lib Go.Proofs.Yteghokakjonblaa
set_option linter.unusedVariables false
theorem infoE : (Try.prog.info? 22).map (fun i => (i.zero, i.size, i.bytes)) = some (some (.slice none 0 0), 1, 24) := by kernel_rfl
theorem sizeE : (Try.prog.info? 22).map (·.size) = some 1 := by kernel_rfl
section
variable {w : World} {b off cap vb : Nat} {l : List Value} {x : Value}
theorem src_one (h : Src1 w vb x) : ∀ j v, ([x] : List Value)[j]? = some v → w.cell? ⟨vb, 0 + j, none⟩ = some v := fun j v e => by
  obtain ⟨hj, rfl⟩ := List.getElem?_eq_some_iff.1 e
  have : j = 0 := by simpa using hj
  subst this
  exact h.cell
theorem one_one (h : Src1 w vb x) : ∀ v ∈ ([x] : List Value), v.oneCell' = true := fun v hv => by
  simp at hv; subst hv; exact h.one
set_option maxHeartbeats 4000000 in
set_option maxRecDepth 100000 in
theorem end_room (h : Sl w b off cap l) (v : Src1 w vb x) (n : Nat) (hn : l.length = n) (hr : n < cap) :
    Calls Try.prog 40 #[.slice (some ⟨b, off, none⟩) n cap, .int .i64 n, .slice (some ⟨vb, 0, none⟩) 1 1] w fun e w' =>
      e = .returned (.slice (some ⟨b, off, none⟩) (n + 1) cap) ∧ w' = w.setCells b (off + n) [x] := by
  have hsrc : Src Try.prog 1 52 (.slice (some ⟨vb, 0, none⟩) 1 1) 1 [x] w := Src.ofSlice w Try.underlying52 ⟨vb, 0, none⟩ 1 1 [x] (by simp) (fun j u hj => by rw [Addr.add_lit]; exact src_one v j u hj) (one_one v)
  have hs : ∀ j, j < ([x] : List Value).length → (w.cell? ⟨b, off + n + j, none⟩).isSome = true := fun j hj => by
    have : j < 1 := hj
    rw [Nat.add_assoc]; exact h.is _ (by omega)
  have hf : ∀ j, j < ([x] : List Value).length → w.frozen? ⟨b, off + n + j, none⟩ = false := fun j _ => h.free _
  have big := h.big
  have HS := Lib.hid (And.intro hsrc (And.intro hs hf))
  clear h v hn hsrc hs hf
  go_enter Try.func40, Try.ntmps40
  go_wp2_with (at_builtin; refine wpList_append_room1 _ rfl _ _ 52 52 rfl 22 _ _ Try.underlying52 infoE b off n cap rfl _ rfl 1 [x] HS.out.1 (by omega) HS.out.2.1 HS.out.2.2 ?_)
  go_ret
  exact ⟨rfl, rfl⟩
set_option maxHeartbeats 4000000 in
set_option maxRecDepth 100000 in
theorem end_grow_at (base : Option Addr) (n : Nat) (hb0 : base = none → n = 0) (hl : l.length = n) (hold : (Builtin.firstCells 1 n (.slice base n n)).run Try.prog w.drew = .ok l.toArray w.drew) (v : Src1 w vb x) (hn : n ≤ 4294967296) :
    Calls Try.prog 40 #[.slice base n n, .int .i64 n, .slice (some ⟨vb, 0, none⟩) 1 1] w fun e w' =>
      e = .returned (.slice (some ⟨w.heap.size, 0, none⟩) (n + 1) (grownCap w (n + 1) n 22)) ∧
      w' = w.drew.alloc (.cells ((l ++ [x]).toArray ++ Builtin.zeroCells ((.slice none 0 0) : Value).cells (grownCap w (n + 1) n 22 - (n + 1))) 22) := by
  obtain ⟨i0, hi0, hz0, hzs, hzb⟩ := info_parts infoE
  have hsrc : Src Try.prog i0.size 52 (.slice (some ⟨vb, 0, none⟩) 1 1) 1 [x] w := by
    rw [hzs]
    exact Src.ofSlice w Try.underlying52 ⟨vb, 0, none⟩ 1 1 [x] (by simp) (fun j u hj => by rw [Addr.add_lit]; exact src_one v j u hj) (one_one v)
  have hrun : ∀ ty, (Builtin.append_ #[52, 52] ty #[.slice base n n, .slice (some ⟨vb, 0, none⟩) 1 1]).run Try.prog w = _ := fun ty =>
    run_append_grow_src w 52 52 ty 22 i0 _ Try.underlying52 hi0 hz0 base n n l (by rw [hzs]; exact hold) _ 1 [x] hsrc (by omega) (by omega) (by rw [hzb]; exact growslice_fits (by omega) (by omega))
  clear v hold hl
  go_enter Try.func40, Try.ntmps40
  cases base with
  | none =>
    have e := hb0 rfl
    subst e
    go_wp2_with (at_builtin; refine Lib.wpList_append_run _ rfl _ _ _ _ rfl _ _ rfl rfl _ _ (hrun _) ?_)
    go_ret
    exact ⟨rfl, rfl⟩
  | some a =>
    obtain ⟨ab, ao, asp⟩ := a
    go_wp2_with (at_builtin; refine Lib.wpList_append_run _ rfl _ _ _ _ rfl _ _ rfl rfl _ _ (hrun _) ?_)
    all_goals (go_ret; exact ⟨rfl, rfl⟩)
set_option maxHeartbeats 4000000 in
set_option maxRecDepth 100000 in
theorem shift_m (h : Sl w b off cap l) (v : Src1 w vb x) (n i m : Nat) (hm : m = 1) (hn : l.length = n) (hi : i < n) (hr : n < cap) (hvb : vb ≠ b) :
    Calls Try.prog 40 #[.slice (some ⟨b, off, none⟩) n cap, .int .i64 i, .slice (some ⟨vb, 0, none⟩) m m] w fun e w' =>
      e = .returned (.slice (some ⟨b, off, none⟩) (n + m) cap) ∧ w' = (w.drew.setCells b (off + (i + m)) (l.drop i)).setCells b (off + i) [x] := by
  obtain ⟨tA, hsa⟩ := v.shape
  obtain ⟨tB, kB, hsb, hkB⟩ := shape_of h (by omega)
  have hov : ∀ lb cb, (callFunc 43 #[.slice (some ⟨vb, 0, none⟩) m m, .slice (some ⟨b, off + (i + m), none⟩) lb cb]).run Try.prog w = .ok (.value (.bool false)) w := fun lb cb => by
    rw [run_callFunc_extern Try.func43 (by kernel_rfl) (by kernel_rfl) (by kernel_rfl) (e := Extern.SlicesOverlaps.overlaps #[52, 52] #[4]) (by kernel_rfl),
      Lib.run_overlaps_apart w 52 4 22 Try.underlying52 1 Try.sizeOf22 ⟨vb, 0, none⟩ ⟨b, off + (i + m), none⟩ m m lb cb hvb tA tB 1 kB hsa hsb hkB (v.free 0) (v.free 1)]
    rfl
  have hdl : (l.drop i).length = n - i := by rw [List.length_drop, hn]
  have big := h.big
  have hroom : n + m ≤ cap := by omega
  have hm0 : 0 < m := by omega
  have hz1 : ¬ ((m : Int) = 0) := by omega
  have hw1 : IntKind.i64.wrap ((i : Int) + (m : Int)) = (i : Int) + (m : Int) := by rw [IntKind.wrap_i64]; omega
  have hb1 : (0 : Int) ≤ (i : Int) + (m : Int) := by omega
  have hin : i ≤ n := by omega
  have htn : ((i : Int) + (m : Int)).toNat = i + m := by omega
  have hb2 : ¬ (cap = i + m) := by omega
  have hb3 : (i : Int) ≤ (n : Int) + (m : Int) := by omega
  have hb4 : ¬ (cap = i) := by omega
  have hz2 : ¬ ((i : Int) = (n : Int)) := by omega
  have hcp1 : ∀ ty dc sc, (Builtin.copy_ #[52, 52] ty #[.slice (some ⟨b, off + (i + m), none⟩) (n + m - (i + m)) dc, .slice (some ⟨b, off + i, none⟩) (n + m - i) sc]).run Try.prog w.drew = .ok (goInt (l.drop i).length) (w.drew.setCells b (off + (i + m)) (l.drop i)) := fun ty dc sc =>
    run_copy_cells w.drew _ _ ty 22 b (off + (i + m)) (n + m - (i + m)) dc ⟨b, off + i, none⟩ (n + m - i) sc (l.drop i) Try.underlying52 sizeE (by rw [hdl]; simp only [Nat.min_def]; split <;> omega)
      (fun j u hj => by rw [Addr.add_lit, Nat.add_assoc]; exact h.get (i + j) u (by rwa [List.getElem?_drop] at hj))
      (fun j hj => by rw [Nat.add_assoc]; exact h.is _ (by omega)) (fun j hj => h.free _) (fun u hu => h.one u (List.mem_of_mem_drop hu))
  obtain ⟨W1, hW1⟩ : ∃ W1, W1 = w.drew.setCells b (off + (i + m)) (l.drop i) := ⟨_, rfl⟩
  have hcp2 : ∀ (W : World), (∀ y, W.cell? y = W1.cell? y) → (∀ y, W.frozen? y = W1.frozen? y) → ∀ ty dc, (Builtin.copy_ #[52, 52] ty #[.slice (some ⟨b, off + i, none⟩) (n + m - i) dc, .slice (some ⟨vb, 0, none⟩) m m]).run Try.prog W = .ok (goInt ([x] : List Value).length) (W.setCells b (off + i) [x]) := fun W hWc hWf ty dc =>
    run_copy_cells W _ _ ty 22 b (off + i) (n + m - i) dc ⟨vb, 0, none⟩ m m [x] Try.underlying52 sizeE (by simp only [Nat.min_def, List.length_cons, List.length_nil]; split <;> omega)
      (fun j u hj => by
        rw [Addr.add_lit, hWc, hW1, World.cell?_setCells_out b _ _ _ _ (fun h _ => absurd h hvb)]
        exact src_one v j u hj)
      (fun j hj => by
        have : j < 1 := hj
        rw [hWc, hW1, Nat.add_assoc]
        exact isSome_setCells b _ _ _ (fun k hk => by rw [Nat.add_assoc]; exact h.is _ (by omega)) _ (h.is _ (by omega)))
      (fun j hj => by rw [hWf, hW1, World.frozen?_setCells]; exact h.free _) (one_one v)
  rw [← hW1] at hcp1
  have HW := Lib.hid hW1
  clear h v hn hsa hsb hdl hW1 hm
  have mixed : Try.prog.follows .mixedOrders = true := by kernel_rfl
  go_enter Try.func40, Try.ntmps40
  go_wp2_with (simp only [hov])
  go_region_law_o (refine step_copy_runI rfl _ _ 52 52 rfl _ _ (by simp [Act.eval, Act.put]) (by simp [Act.eval, Act.put]) (hcp1 _ _ _) ?_)
  go_wp2_with (at_builtin; refine wpList_copy_runI _ rfl _ _ 52 52 rfl _ _ rfl rfl (hcp2 _ (fun _ => rfl) (fun _ => rfl) _ _) ?_)
  go_ret
  first | exact ⟨rfl, rfl⟩ | exact ⟨rfl, by rw [HW.out]⟩
set_option maxHeartbeats 4000000 in
set_option maxRecDepth 100000 in
theorem grow_m (h : Sl w b off cap l) (v : Src1 w vb x) (n i m G : Nat) (ROW : Array Value) (hm : m = 1) (hn : l.length = n) (hi : i < n) (hr : n = cap) (h9 : n ≤ 4294967296) (hG : G = grownCap w (n + m) cap 22)
    (hROW : ROW = (l.take i).toArray ++ Builtin.zeroCells ((.slice none 0 0) : Value).cells (n + m - i) ++ Builtin.zeroCells ((.slice none 0 0) : Value).cells (G - (n + m))) :
    Calls Try.prog 40 #[.slice (some ⟨b, off, none⟩) n cap, .int .i64 i, .slice (some ⟨vb, 0, none⟩) m m] w fun e w' =>
      e = .returned (.slice (some ⟨w.heap.size, 0, none⟩) (n + m) G) ∧
      w' = (((w.alloc (.cells ROW 22)).drew.setCells w.heap.size i [x]).drew).setCells w.heap.size (i + m) (l.drop i) := by
  obtain ⟨i0, hi0, hz0, hzs, hzb⟩ := info_parts infoE
  have hm0 : 0 < m := by omega
  have hm2 : m < 2 := by omega
  have hnc : n ≤ cap := by omega
  have hroom : cap < n + m := by omega
  have big := h.big
  have hz1 : ¬ ((m : Int) = 0) := by omega
  have hz2 : ¬ ((i : Int) = (n : Int)) := by omega
  have hz3 : (cap : Int) < (n : Int) + (m : Int) := by omega
  have hvw : vb < w.heap.size := block_lt_of_cell v.cell
  have hbw := h.lt
  have hkk : (n : Int) + (m : Int) - (i : Int) = ((n + m - i : Nat) : Int) := by omega
  have hik : i + (n + m - i) = n + m := by omega
  have hold : (Builtin.firstCells i0.size i (.slice (some ⟨b, off, none⟩) i cap)).run Try.prog w.drew = .ok (l.take i).toArray w.drew := by
    rw [hzs]
    exact run_firstCells_some w.drew 1 i ⟨b, off, none⟩ i cap (l.take i) (by rw [List.length_take]; omega) (fun j u hj => by
      rw [Addr.add_lit]
      rw [List.getElem?_take] at hj
      split at hj
      · exact h.get j u hj
      · cases hj)
  have hrz : ∀ ty, (Builtin.append_ #[52, 3] ty #[.slice (some ⟨b, off, none⟩) i cap, .int .i64 ((n : Int) + (m : Int) - (i : Int))]).run Try.prog w =
      .ok (.slice (some ⟨w.heap.size, 0, none⟩) (n + m) G) (w.drew.alloc (.cells ROW 22)) := fun ty => by
    have k := Lib.run_append_grow_zeros w 52 3 ty 22 i0 _ .i64 .i64 Try.underlying52 Try.underlying3 hi0 hz0 (some ⟨b, off, none⟩) i cap (l.take i) hold (n + m - i) (by omega) (by omega) (by omega) (by omega) (by rw [hzb]; omega) (by rw [hzb, hik]; exact growslice_fits hroom (by omega))
    rw [hik, ← hG, ← hROW] at k
    rw [hkk]
    exact k
  have hRl : n + m ≤ ROW.size := by
    rw [hROW]
    simp [Builtin.zeroCells, Value.cells]
    omega
  obtain ⟨W1, hW1⟩ : ∃ W1, W1 = w.drew.alloc (.cells ROW 22) := ⟨_, rfl⟩
  rw [← hW1] at hrz
  have hN : ∀ j, j < n + m → (W1.cell? ⟨w.heap.size, j, none⟩).isSome = true := fun j hj => by
    rw [hW1, World.cell?_alloc_at (w := w.drew) ROW _ w.heap.size j rfl, Array.getElem?_eq_getElem (by omega)]; rfl
  have hNf : ∀ j, W1.frozen? ⟨w.heap.size, j, none⟩ = false := fun j => by rw [hW1]; exact World.frozen?_alloc_at (w := w.drew) ROW _ w.heap.size j rfl
  have hOb : ∀ j u, w.cell? ⟨b, j, none⟩ = some u → W1.cell? ⟨b, j, none⟩ = some u := fun j u k => by rw [hW1, World.cell?_alloc_past (w := w.drew) _ b j hbw]; exact k
  have hOv : ∀ j u, w.cell? ⟨vb, j, none⟩ = some u → W1.cell? ⟨vb, j, none⟩ = some u := fun j u k => by rw [hW1, World.cell?_alloc_past (w := w.drew) _ vb j hvw]; exact k
  have hcpA : ∀ (W : World), (∀ y, W.cell? y = W1.cell? y) → (∀ y, W.frozen? y = W1.frozen? y) → ∀ ty dc, (Builtin.copy_ #[52, 52] ty #[.slice (some ⟨w.heap.size, i, none⟩) (n + m - i) dc, .slice (some ⟨vb, 0, none⟩) m m]).run Try.prog W = .ok (goInt ([x] : List Value).length) (W.setCells w.heap.size i [x]) := fun W hWc hWf ty dc =>
    run_copy_cells W _ _ ty 22 w.heap.size i (n + m - i) dc ⟨vb, 0, none⟩ m m [x] Try.underlying52 sizeE (by simp only [Nat.min_def, List.length_cons, List.length_nil]; split <;> omega)
      (fun j u hj => by rw [Addr.add_lit, hWc]; exact hOv _ u (src_one v j u hj))
      (fun j hj => by
        have : j < 1 := hj
        rw [hWc]; exact hN _ (by omega)) (fun j hj => by rw [hWf]; exact hNf _) (one_one v)
  have hGn : n + m ≤ G := by rw [hG]; exact grownCap_ge w _ _ _
  have hG63 : G ≤ 9223372036854775807 := by
    have := grownCap_le_maxLen w (n + m) cap 22 (by unfold maxLen; omega)
    rw [← hG] at this
    unfold maxLen at this
    omega
  have hGi : ¬ (G = i) := by omega
  have hGim : ¬ (G = i + m) := by omega
  have hci : ¬ (cap = i) := by omega
  have hbN : b ≠ w.heap.size := by omega
  have hdl : (l.drop i).length = n - i := by rw [List.length_drop, hn]
  have hcpB : ∀ (W : World), (∀ y, W.cell? y = (W1.setCells w.heap.size i [x]).cell? y) → (∀ y, W.frozen? y = (W1.setCells w.heap.size i [x]).frozen? y) → ∀ ty dc sc, (Builtin.copy_ #[52, 52] ty #[.slice (some ⟨w.heap.size, i + m, none⟩) (n + m - (i + m)) dc, .slice (some ⟨b, off + i, none⟩) (n - i) sc]).run Try.prog W = .ok (goInt (l.drop i).length) (W.setCells w.heap.size (i + m) (l.drop i)) := fun W hWc hWf ty dc sc =>
    run_copy_cells W _ _ ty 22 w.heap.size (i + m) (n + m - (i + m)) dc ⟨b, off + i, none⟩ (n - i) sc (l.drop i) Try.underlying52 sizeE (by rw [hdl]; simp only [Nat.min_def]; split <;> omega)
      (fun j u hj => by
        rw [Addr.add_lit, hWc, World.cell?_setCells_out _ _ _ _ _ (fun h _ => absurd h hbN), Nat.add_assoc]
        exact hOb _ u (h.get (i + j) u (by rwa [List.getElem?_drop] at hj)))
      (fun j hj => by
        rw [hWc]
        exact isSome_setCells _ _ _ _ (fun t ht => hN _ (by have : t < 1 := ht; omega)) _ (hN _ (by omega)))
      (fun j hj => by rw [hWf, World.frozen?_setCells]; exact hNf _) (fun u hu => h.one u (List.mem_of_mem_drop hu))
  subst hW1
  have hE1 : ∀ y, ((w.alloc (.cells ROW 22)).drew).cell? y = (w.drew.alloc (.cells ROW 22)).cell? y := fun y => rfl
  have hE2 : ∀ y, ((w.alloc (.cells ROW 22)).drew).frozen? y = (w.drew.alloc (.cells ROW 22)).frozen? y := fun y => rfl
  have hF1 : ∀ y, (((w.alloc (.cells ROW 22)).drew.setCells w.heap.size i [x]).drew).cell? y = ((w.drew.alloc (.cells ROW 22)).setCells w.heap.size i [x]).cell? y := fun y => rfl
  have hF2 : ∀ y, (((w.alloc (.cells ROW 22)).drew.setCells w.heap.size i [x]).drew).frozen? y = ((w.drew.alloc (.cells ROW 22)).setCells w.heap.size i [x]).frozen? y := fun y => rfl
  have hw1 : IntKind.i64.wrap ((i : Int) + (m : Int)) = (i : Int) + (m : Int) := by rw [IntKind.wrap_i64]; omega
  have hb1 : (0 : Int) ≤ (i : Int) + (m : Int) := by omega
  have hin : i ≤ n := by omega
  have htn : ((i : Int) + (m : Int)).toNat = i + m := by omega
  have hb3 : (i : Int) ≤ (n : Int) := by omega
  clear hkk hik hold hROW hG hRl h v hn hr hm
  have mixed : Try.prog.follows .mixedOrders = true := by kernel_rfl
  go_enter Try.func40, Try.ntmps40
  go_wp2_with (first
    | (at_builtin; refine Lib.wpList_append_run _ rfl _ _ _ _ rfl _ _ rfl rfl _ _ (hrz _) ?_)
    | (at_builtin; refine wpList_copy_runI _ rfl _ _ 52 52 rfl _ _ rfl rfl (hcpA _ hE1 hE2 _ _) ?_)
    | (at_builtin; refine wpList_copy_runI _ rfl _ _ 52 52 rfl _ _ rfl rfl (hcpB _ (fun _ => rfl) (fun _ => rfl) _ _ _) ?_))
  go_region_law_o (refine step_copy_runI rfl _ _ 52 52 rfl (.slice (some ⟨w.heap.size, i + m, none⟩) (n + m - (i + m)) (G - (i + m))) (.slice (some ⟨b, off + i, none⟩) (n - i) (cap - i)) (by simp [Act.eval, Act.put]) (by simp [Act.eval, Act.put]) (hcpB _ hF1 hF2 3 (G - (i + m)) (cap - i)) ?_)
  go_wp2
  go_ret
  exact ⟨rfl, rfl⟩
theorem one_ins {l : List Value} {x : Value} (h : ∀ v ∈ l, v.oneCell' = true) (hx : x.oneCell' = true) (i : Nat) : ∀ v ∈ l.take i ++ x :: l.drop i, v.oneCell' = true := fun v hv => by
  rcases List.mem_append.1 hv with k | k
  · exact h v (List.mem_of_mem_take k)
  · rcases List.mem_cons.1 k with rfl | k
    · exact hx
    · exact h v (List.mem_of_mem_drop k)
theorem drew_alloc (w : World) (o : Obj) : w.drew.alloc o = (w.alloc o).drew := rfl
/-- The nil row. -/
theorem nil_ins (v : Src1 w vb x) : Calls Try.prog 40 #[.slice none 0 0, .int .i64 0, .slice (some ⟨vb, 0, none⟩) 1 1] w fun e w' => ∃ b' cap', e = .returned (.slice (some ⟨b', 0, none⟩) 1 cap') ∧ Sl w' b' 0 cap' [x] ∧ w.heap.size ≤ b' ∧ Below w.heap.size w w' := by
  refine (end_grow_at (l := []) none 0 (fun _ => rfl) rfl (run_firstCells_none w.drew 1 0 0 0) v (by omega)).mono ?_
  rintro e w' ⟨rfl, rfl⟩
  have hk := grownCap_ge w (0 + 1) 0 22
  have hm := grownCap_le_maxLen w (0 + 1) 0 22 (by unfold maxLen; omega)
  unfold maxLen at hm
  obtain ⟨G, hG⟩ : ∃ G, G = grownCap w (0 + 1) 0 22 := ⟨_, rfl⟩
  rw [← hG] at hk hm ⊢
  obtain ⟨ROW, hR⟩ : ∃ ROW, ROW = ([] ++ [x] : List Value).toArray ++ Builtin.zeroCells ((.slice none 0 0) : Value).cells (G - (0 + 1)) := ⟨_, rfl⟩
  rw [← hR]
  have sz : ROW.size = G := by
    rw [hR]
    simp [Builtin.zeroCells, Value.cells]; omega
  have s := Sl.new w.drew ROW 22 [x] (one_one v) (by rw [sz]; omega) (by rw [sz]; simpa using hk) (fun j u e => by
    rw [hR, Array.getElem?_append_left (by simpa using (List.getElem?_eq_some_iff.1 e).1)]
    simpa using e)
  rw [sz] at s
  exact ⟨w.heap.size, _, rfl, s, Nat.le_refl _, ((Below.refl _ w).drew).alloc (Nat.le_refl _) _⟩
/-- slices.Insert of one element. -/
theorem any (h : Sl w b off cap l) (v : Src1 w vb x) (i : Nat) (hi : i ≤ l.length) (h9 : l.length ≤ 4294967296) (hvb : vb ≠ b) :
    Calls Try.prog 40 #[.slice (some ⟨b, off, none⟩) l.length cap, .int .i64 i, .slice (some ⟨vb, 0, none⟩) 1 1] w (Ins w b off cap l i x) := by
  have one := one_ins h.one v.one i
  have len : (l.take i ++ x :: l.drop i).length = l.length + 1 := by simp; omega
  rcases Nat.lt_or_ge l.length cap with r | r
  · rcases Nat.lt_or_ge i l.length with k | k
    · refine (shift_m h v l.length i 1 rfl rfl k r hvb).mono ?_
      rintro e w' ⟨rfl, rfl⟩
      have s1 := h.drew.lay (i + 1) (l.drop i) (l.take (i + 1) ++ l.drop i) (fun u hu => h.one u (List.mem_of_mem_drop hu)) (by rw [List.length_drop]; omega) (by simp; omega) (fun j u e => by
        rw [List.getElem?_append] at e
        have tl : (l.take (i + 1)).length = i + 1 := by rw [List.length_take]; omega
        split at e
        · rename_i q
          rw [tl] at q
          rw [List.getElem?_take, if_pos q] at e
          exact .inr ⟨.inl q, e⟩
        · rename_i q
          rw [tl] at q e
          exact .inl ⟨by omega, e⟩)
      have s2 := s1.lay i [x] (l.take i ++ x :: l.drop i) (one_one v) (by show i + 1 ≤ cap; omega) (by omega) (fun j u e => by
        have tl : (l.take i).length = i := by rw [List.length_take]; omega
        rw [List.getElem?_append, tl] at e
        split at e
        · rename_i q
          refine .inr ⟨.inl q, ?_⟩
          rw [List.getElem?_append_left (by rw [List.length_take]; omega)]
          rw [List.getElem?_take, if_pos q] at e
          rw [List.getElem?_take, if_pos (by omega)]
          exact e
        · rename_i q
          rcases Nat.eq_or_lt_of_le (Nat.le_of_not_lt q) with z | z
          · subst z
            refine .inl ⟨Nat.le_refl _, ?_⟩
            rw [Nat.sub_self] at e ⊢
            exact e
          · refine .inr ⟨.inr (by show i + 1 ≤ j; omega), ?_⟩
            rw [List.getElem?_append_right (by rw [List.length_take]; omega), List.length_take, Nat.min_eq_left (by omega)]
            rw [show j - i = (j - (i + 1)) + 1 by omega, List.getElem?_cons_succ] at e
            exact e)
      refine ⟨b, off, cap, rfl, s2, .inl ⟨r, rfl, rfl, rfl, ?_⟩⟩
      have t0 : Turn (Rng b off cap) w w.drew := (Turn.refl _ w).drew
      have t1 := Turn.lay b off cap (i + 1) (l.drop i) w.drew (by rw [List.length_drop]; omega)
      have t2 := Turn.lay b off cap i [x] (w.drew.setCells b (off + (i + 1)) (l.drop i)) (by show i + 1 ≤ cap; omega)
      exact (t0.trans t1 fun a e => .inl e).trans t2 fun a e => .inl e
    · have : i = l.length := by omega
      subst this
      refine (end_room h v l.length rfl r).mono ?_
      rintro e w' ⟨rfl, rfl⟩
      have s := h.lay l.length [x] (l ++ [x]) (one_one v) (by show l.length + 1 ≤ cap; omega) (by simp; omega) (fun j u e => by
        rw [List.getElem?_append] at e
        split at e
        · rename_i q
          exact .inr ⟨.inl q, e⟩
        · rename_i q
          exact .inl ⟨by omega, e⟩)
      refine ⟨b, off, cap, rfl, by simpa using s, .inl ⟨r, rfl, rfl, rfl, Turn.lay b off cap _ [x] w (by show l.length + 1 ≤ cap; omega)⟩⟩
  · have rc : l.length = cap := Nat.le_antisymm h.len r
    rcases Nat.lt_or_ge i l.length with k | k
    · refine (grow_m h v l.length i 1 _ _ rfl rfl k rc h9 rfl rfl).mono ?_
      rintro e w' ⟨rfl, rfl⟩
      have hk := grownCap_ge w (l.length + 1) cap 22
      have hm := grownCap_le_maxLen w (l.length + 1) cap 22 (by unfold maxLen; omega)
      unfold maxLen at hm
      obtain ⟨G, hG⟩ : ∃ G, G = grownCap w (l.length + 1) cap 22 := ⟨_, rfl⟩
      rw [← hG] at hk hm ⊢
      obtain ⟨ROW, hR⟩ : ∃ ROW, ROW = (l.take i).toArray ++ Builtin.zeroCells ((.slice none 0 0) : Value).cells (l.length + 1 - i) ++ Builtin.zeroCells ((.slice none 0 0) : Value).cells (G - (l.length + 1)) := ⟨_, rfl⟩
      rw [← hR]
      have sz : ROW.size = G := by
        rw [hR]
        simp [Builtin.zeroCells, Value.cells]; omega
      have s0 := Sl.new w ROW 22 (l.take i) (fun u hu => h.one u (List.mem_of_mem_take hu)) (by rw [sz]; omega) (by rw [sz, List.length_take]; omega) (fun j u e => by
        have q := (List.getElem?_eq_some_iff.1 e).1
        rw [hR, Array.getElem?_append_left (by simp at q ⊢; omega), Array.getElem?_append_left (by simpa using q)]
        simpa using e)
      rw [sz] at s0
      have s1 := s0.drew.lay i [x] (l.take i ++ [x]) (one_one v) (by show i + 1 ≤ G; omega) (by simp; omega) (fun j u e => by
        have tl : (l.take i).length = i := by rw [List.length_take]; omega
        rw [List.getElem?_append, tl] at e
        split at e
        · rename_i q
          exact .inr ⟨.inl q, e⟩
        · rename_i q
          exact .inl ⟨by omega, e⟩)
      have s2 := s1.drew.lay (i + 1) (l.drop i) (l.take i ++ x :: l.drop i) (fun u hu => h.one u (List.mem_of_mem_drop hu)) (by rw [List.length_drop]; omega) (by omega) (fun j u e => by
        have tl : (l.take i).length = i := by rw [List.length_take]; omega
        rw [show l.take i ++ x :: l.drop i = (l.take i ++ [x]) ++ l.drop i by simp, List.getElem?_append] at e
        have t2 : (l.take i ++ [x]).length = i + 1 := by simp; omega
        rw [t2] at e
        split at e
        · rename_i q
          exact .inr ⟨.inl q, e⟩
        · rename_i q
          exact .inl ⟨by omega, e⟩)
      simp only [Nat.zero_add] at s2
      refine ⟨w.heap.size, 0, G, rfl, s2, .inr ⟨rc, Nat.le_refl _, rfl, ?_⟩⟩
      have t0 : Turn (fun a => a.block = w.heap.size) w (w.alloc (.cells ROW 22)).drew := ((Turn.refl _ w).alloc _).drew
      have t1 : Turn (fun a => a.block = w.heap.size) (w.alloc (.cells ROW 22)).drew ((w.alloc (.cells ROW 22)).drew.setCells w.heap.size i [x]).drew := (Turn.cells w.heap.size [x] i _ fun j _ => rfl).drew
      have t2 : Turn (fun a => a.block = w.heap.size) ((w.alloc (.cells ROW 22)).drew.setCells w.heap.size i [x]).drew (((w.alloc (.cells ROW 22)).drew.setCells w.heap.size i [x]).drew.setCells w.heap.size (i + 1) (l.drop i)) := Turn.cells w.heap.size (l.drop i) (i + 1) _ fun j _ => rfl
      have t := (t0.trans t1 fun a e => .inl e).trans t2 fun a e => .inl e
      exact (t.only (F := fun k => k = w.heap.size) fun a e => e).below (fun k e => by omega) (Nat.le_refl _)
    · have : i = l.length := by omega
      subst this
      subst rc
      have hold : (Builtin.firstCells 1 l.length (.slice (some ⟨b, off, none⟩) l.length l.length)).run Try.prog w.drew = .ok l.toArray w.drew :=
        run_firstCells_some w.drew 1 l.length ⟨b, off, none⟩ l.length l.length l (by simp) (fun j u hj => by rw [Addr.add_lit]; exact h.get j u hj)
      refine (end_grow_at (some ⟨b, off, none⟩) l.length (fun e => nomatch e) rfl hold v h9).mono ?_
      rintro e w' ⟨rfl, rfl⟩
      have hk := grownCap_ge w (l.length + 1) l.length 22
      have hm := grownCap_le_maxLen w (l.length + 1) l.length 22 (by unfold maxLen; omega)
      unfold maxLen at hm
      obtain ⟨G, hG⟩ : ∃ G, G = grownCap w (l.length + 1) l.length 22 := ⟨_, rfl⟩
      rw [← hG] at hk hm ⊢
      obtain ⟨ROW, hR⟩ : ∃ ROW, ROW = (l ++ [x]).toArray ++ Builtin.zeroCells ((.slice none 0 0) : Value).cells (G - (l.length + 1)) := ⟨_, rfl⟩
      rw [← hR]
      have sz : ROW.size = G := by
        rw [hR]
        simp [Builtin.zeroCells, Value.cells]; omega
      have o2 : ∀ u ∈ l ++ [x], u.oneCell' = true := fun u hu => by
        rcases List.mem_append.1 hu with k | k
        · exact h.one u k
        · exact one_one v u k
      have s0 := Sl.new w.drew ROW 22 (l ++ [x]) o2 (by rw [sz]; omega) (by rw [sz]; simpa using hk) (fun j u e => by
        have q := (List.getElem?_eq_some_iff.1 e).1
        rw [hR, Array.getElem?_append_left (by simpa using q)]
        simpa using e)
      rw [sz] at s0
      refine ⟨w.heap.size, 0, G, rfl, by simpa using s0, .inr ⟨rfl, Nat.le_refl _, rfl, ((Below.refl _ w).drew).alloc (Nat.le_refl _) _⟩⟩
end
end Go.Proofs.Yteghokakjonblaa.insC
