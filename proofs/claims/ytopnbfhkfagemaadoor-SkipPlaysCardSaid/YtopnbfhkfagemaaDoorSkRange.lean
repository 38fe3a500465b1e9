/- Package skip: Range, All, Levels. -/
import Derived.Test.YtopnbfhkfagemaaDoorSkDel
namespace Go.Proofs.YtopnbfhkfagemaaDoor
open Go.RowKit
set_option linter.unusedVariables false
/-- The names with scores from a place to a place. -/
def SkM.cut (l : List SkM.E) (i j : Int) : List SkM.E :=
  if min (idx l.length j) ((l.length : Int) - 1) < max (idx l.length i) 0 then [] else (l.drop (max (idx l.length i) 0).toNat).take ((min (idx l.length j) ((l.length : Int) - 1)).toNat - (max (idx l.length i) 0).toNat + 1)
/-- v is a slice of names with scores that reads as l. -/
def SList (w : World) (v : Value) (l : List SkM.E) : Prop := ∃ A c, v = .slice A l.length c ∧ (A = none → c = 0) ∧ l.length ≤ c ∧ ∀ i (h : i < l.length), ∃ p : Addr, A = some p ∧ p.block < w.heap.size ∧ w.cell? (p.add (i * 2)) = some (.string ⟨l[i].1.toArray⟩) ∧ w.cell? ((p.add (i * 2)).add 1) = some (.int .i64 l[i].2)
theorem SList.keep {w w' : World} {v : Value} {l : List SkM.E} (h : SList w v l) (hb : Below w.heap.size w w') : SList w' v l := by
  obtain ⟨A, c, e, hA, hc, hr⟩ := h
  refine ⟨A, c, e, hA, hc, fun i hi => ?_⟩
  obtain ⟨p, ep, hp, h1, h2⟩ := hr i hi
  exact ⟨p, ep, Nat.lt_of_lt_of_le hp hb.size, by rw [hb.cell (p := p.add (i * 2)) (by rw [add_block]; exact hp)]; exact h1, by rw [hb.cell (p := (p.add (i * 2)).add 1) (by rw [add_block, add_block]; exact hp)]; exact h2⟩
theorem run_max_is (f a : Int) (h : max f 0 = a) : ∀ (W : World) (ts : Array TypeId) (t : TypeId), (Builtin.max_ ts t #[.int .i64 f, .int .i64 0]).run Tryd.prog W = .ok (.int .i64 a) W := fun W ts t => by
  rw [run_max_int2, ← h]
  congr 2
  split <;> omega
theorem run_min_is (f g a : Int) (h : min f g = a) : ∀ (W : World) (ts : Array TypeId) (t : TypeId), (Builtin.min_ ts t #[.int .i64 f, .int .i64 g]).run Tryd.prog W = .ok (.int .i64 a) W := fun W ts t => by
  rw [run_min_int2, ← h]
  congr 2
  split <;> omega
section
variable {w : World} {q : Nat}
set_option maxRecDepth 20000 in
set_option maxHeartbeats 2000000 in
theorem range_none {o : Option (Nat × Nat)} {ns : List Nd} (st : St w q o ns) (h9 : ns.length ≤ 1000) (i j : Int) (i0 : -9223372036854775808 ≤ i) (i1 : i ≤ 9223372036854775807) (j0 : -9223372036854775808 ≤ j) (j1 : j ≤ 9223372036854775807) (h : min (idx ns.length j) ((ns.length : Int) - 1) < max (idx ns.length i) 0) :
    Calls Tryd.prog 24 #[.pointer (some ⟨q, 0, none⟩), .int .i64 i, .int .i64 j] w fun e w' => e = .returned (.slice none 0 0) ∧ w' = w := by
  have LN := Lib.hid (len_any st)
  have FI := Lib.hid (from_any st h9 i i0 i1)
  have FJ := Lib.hid (from_any st h9 j j0 j1)
  rw [show (if i < 0 then (ns.length : Int) + i else i) = idx ns.length i from rfl] at FI
  rw [show (if j < 0 then (ns.length : Int) + j else j) = idx ns.length j from rfl] at FJ
  obtain ⟨fi, hfi⟩ : ∃ k, idx ns.length i = k := ⟨_, rfl⟩
  obtain ⟨fj, hfj⟩ : ∃ k, idx ns.length j = k := ⟨_, rfl⟩
  rw [hfi] at FI h
  rw [hfj] at FJ h
  obtain ⟨N, hN⟩ : ∃ N, ns.length = N := ⟨_, rfl⟩
  rw [hN] at LN h h9
  have n9 : (N : Int) ≤ 1000 := by omega
  have n0 : (0 : Int) ≤ (N : Int) := by omega
  obtain ⟨a, ha⟩ : ∃ a, max fi 0 = a := ⟨_, rfl⟩
  obtain ⟨b, hb⟩ : ∃ b, min fj ((N : Int) - 1) = b := ⟨_, rfl⟩
  rw [ha, hb] at h
  have hmax := run_max_is fi a ha
  have hmin := run_min_is fj ((N : Int) - 1) b hb
  clear st h9 i0 i1 j0 j1 hfi hfj hN ha hb
  go_enter Tryd.func24, Tryd.ntmps24
  go_wp2_with fail
  go_at_call 34
  refine FI.out.mono ?_
  rintro e w0 ⟨rfl, hw0⟩
  obtain rfl := hw0.symm
  go_wp2_with fail
  go_at_call 34
  refine FJ.out.mono ?_
  rintro e w0 ⟨rfl, hw0⟩
  obtain rfl := hw0.symm
  go_wp2_with fail
  go_at_call 14
  refine LN.out.mono ?_
  rintro e w0 ⟨rfl, hw0⟩
  obtain rfl := hw0.symm
  go_wp2_with fail
  go_ret
  exact ⟨rfl, rfl⟩
/-- The rounds of Range below k are done. -/
structure RIn (w1 : World) (g : Nat) (ls : List Nd) (k : Nat) (wr : World) : Prop where
  turn : Turn (fun a => a.block = g) w1 wr
  done : ∀ j (h : j < ls.length), j < k → wr.cell? ⟨g, j * 2, none⟩ = some (.string ⟨ls[j].s.toArray⟩) ∧ wr.cell? ⟨g, j * 2 + 1, none⟩ = some (.int .i64 ls[j].v)
  room : ∀ j, j < ls.length → ∃ u v, wr.cell? ⟨g, j * 2, none⟩ = some u ∧ wr.cell? ⟨g, j * 2 + 1, none⟩ = some v
theorem RIn.step {w1 wr : World} {g : Nat} {ls : List Nd} {k : Nat} (h : RIn w1 g ls k wr) (hk : k < ls.length) : RIn w1 g ls (k + 1) ((wr.setCell ⟨g, k * 2, none⟩ (.string ⟨ls[k].s.toArray⟩)).setCell ⟨g, k * 2 + 1, none⟩ (.int .i64 ls[k].v)) := by
  obtain ⟨u, v, h0, h1⟩ := h.room k hk
  have c0 : ((wr.setCell ⟨g, k * 2, none⟩ (.string ⟨ls[k].s.toArray⟩)).setCell ⟨g, k * 2 + 1, none⟩ (.int .i64 ls[k].v)).cell? ⟨g, k * 2, none⟩ = some (.string ⟨ls[k].s.toArray⟩) := by
    rw [World.cell?_setCell_other _ _ _ _ (fun e => by injection e with _ e _; omega)]
    exact World.cell?_setCell_same _ _ _ h0
  have c1 : ((wr.setCell ⟨g, k * 2, none⟩ (.string ⟨ls[k].s.toArray⟩)).setCell ⟨g, k * 2 + 1, none⟩ (.int .i64 ls[k].v)).cell? ⟨g, k * 2 + 1, none⟩ = some (.int .i64 ls[k].v) :=
    World.cell?_setCell_same (u := v) _ _ _ (by rw [World.cell?_setCell_other _ _ _ _ (fun e => by injection e with _ e _; omega), h1])
  have far : ∀ j, j ≠ k → ∀ W : World, ((W.setCell ⟨g, k * 2, none⟩ (.string ⟨ls[k].s.toArray⟩)).setCell ⟨g, k * 2 + 1, none⟩ (.int .i64 ls[k].v)).cell? ⟨g, j * 2, none⟩ = W.cell? ⟨g, j * 2, none⟩ ∧ ((W.setCell ⟨g, k * 2, none⟩ (.string ⟨ls[k].s.toArray⟩)).setCell ⟨g, k * 2 + 1, none⟩ (.int .i64 ls[k].v)).cell? ⟨g, j * 2 + 1, none⟩ = W.cell? ⟨g, j * 2 + 1, none⟩ := fun j hj W =>
    ⟨by rw [World.cell?_setCell_other _ _ _ _ (fun e => by injection e with _ e _; omega), World.cell?_setCell_other _ _ _ _ (fun e => by injection e with _ e _; omega)], by rw [World.cell?_setCell_other _ _ _ _ (fun e => by injection e with _ e _; omega), World.cell?_setCell_other _ _ _ _ (fun e => by injection e with _ e _; omega)]⟩
  refine ⟨(h.turn.store (.inl rfl) _).store (.inl rfl) _, fun j hj hlt => ?_, fun j hj => ?_⟩
  · by_cases e : j = k
    · subst e; exact ⟨c0, c1⟩
    · rw [(far j e wr).1, (far j e wr).2]
      exact h.done j hj (by omega)
  · by_cases e : j = k
    · subst e; exact ⟨_, _, c0, c1⟩
    · rw [(far j e wr).1, (far j e wr).2]
      exact h.room j hj
set_option maxRecDepth 20000 in
set_option maxHeartbeats 4000000 in
theorem range_some {F m : Nat} {ns : List Nd} (st : St w q (some (F, m)) ns) (h9 : ns.length ≤ 1000) (i j : Int) (i0 : -9223372036854775808 ≤ i) (i1 : i ≤ 9223372036854775807) (j0 : -9223372036854775808 ≤ j) (j1 : j ≤ 9223372036854775807) (a b : Nat) (hi : max (idx ns.length i) 0 = (a : Int)) (hj : min (idx ns.length j) ((ns.length : Int) - 1) = (b : Int)) (hab : a ≤ b) :
    Calls Tryd.prog 24 #[.pointer (some ⟨q, 0, none⟩), .int .i64 i, .int .i64 j] w fun e w' => (∃ v, e = .returned v ∧ SList w' v (((ns.drop a).take (b - a + 1)).map Nd.e)) ∧ Below w.heap.size w w' := by
  have hbn : b < ns.length := by omega
  have LN := Lib.hid (len_any st)
  have FI := Lib.hid (from_any st h9 i i0 i1)
  have FJ := Lib.hid (from_any st h9 j j0 j1)
  rw [show (if i < 0 then (ns.length : Int) + i else i) = idx ns.length i from rfl] at FI
  rw [show (if j < 0 then (ns.length : Int) + j else j) = idx ns.length j from rfl] at FJ
  obtain ⟨fi, hfi⟩ : ∃ k, idx ns.length i = k := ⟨_, rfl⟩
  obtain ⟨fj, hfj⟩ : ∃ k, idx ns.length j = k := ⟨_, rfl⟩
  rw [hfi] at FI hi
  rw [hfj] at FJ hj
  obtain ⟨N, hN⟩ : ∃ N, ns.length = N := ⟨_, rfl⟩
  have HN := Lib.hid hN
  rw [hN] at LN hj
  have n9 : (N : Int) ≤ 1000 := by omega
  have n0 : (0 : Int) ≤ (N : Int) := by omega
  have hmax := run_max_is fi a hi
  have hmin := run_min_is fj ((N : Int) - 1) b hj
  have ab : (a : Int) ≤ (b : Int) := by omega
  have bN : (b : Int) < (N : Int) := by omega
  have a0 : (0 : Int) ≤ (a : Int) := by omega
  obtain ⟨n, hn⟩ : ∃ n, b - a + 1 = n := ⟨_, rfl⟩
  have en : (b : Int) - (a : Int) + 1 = (n : Int) := by omega
  have w1e : wrap64 ((b : Int) - (a : Int)) = (b : Int) - (a : Int) := by unfold wrap64; omega
  have w2e : wrap64 ((b : Int) - (a : Int) + 1) = (n : Int) := by unfold wrap64; omega
  have n1 : (0 : Int) < (n : Int) := by omega
  have nn : (n : Int) ≤ 1000 := by omega
  have HND := Lib.hid hn
  have HNN : Hid (a + n ≤ ns.length ∧ 0 < n) := by show _ ∧ _; omega
  have mk : ∀ W, (Instr.makeSlice 22 (.int .i64 (n : Int)) (.int .i64 (n : Int))).run Tryd.prog W = .ok (.slice (some ⟨W.heap.size, 0, none⟩) n n) (W.alloc (.cells (pairsOf (.string ⟨#[]⟩) (.int .i64 0) n) 30)) := fun W => made_scores n W (by omega)
  obtain ⟨z, hz⟩ : ∃ z, pairsOf (.string ⟨#[]⟩) (.int .i64 0) n = z := ⟨_, rfl⟩
  rw [hz] at mk
  obtain ⟨w1, hw1⟩ : ∃ w1, w.alloc (.cells z 30) = w1 := ⟨_, rfl⟩
  have al : Below w.heap.size w w1 := by rw [← hw1]; exact (Below.refl _ w).alloc (Nat.le_refl _) _
  have hg : w1.heap[w.heap.size]? = some (.cells z 30 (0, 0)) := by rw [← hw1]; exact heap_alloc_new _ _
  have AL := Lib.hid al
  have ST1 := Lib.hid (st.same (fun b hb => al.block b (st.lt b hb)) al.size)
  have LT := Lib.hid st.lt
  obtain ⟨g, hgg⟩ : ∃ g, w.heap.size = g := ⟨_, rfl⟩
  have GG := Lib.hid hgg
  rw [hgg] at hg
  have RM : Hid (∀ j, j < n → ∃ u v, w1.cell? ⟨g, j * 2, none⟩ = some u ∧ w1.cell? ⟨g, j * 2 + 1, none⟩ = some v) := fun j hj => by
    have hp := pairsOf_at (a := .string ⟨#[]⟩) (b := .int .i64 0) hj
    rw [hz] at hp
    exact ⟨_, _, (cell_of_row w1 g _ _ _ _ hg).trans hp.1, (cell_of_row w1 g _ _ _ _ hg).trans hp.2⟩
  have FR : Hid (∀ i, w1.frozen? ⟨g, i, none⟩ = false) := fun i => by simp [World.frozen?, hg]
  have GL : Hid (g < w1.heap.size) := (Array.getElem?_eq_some_iff.1 hg).1
  clear st i0 i1 j0 j1 hfi hfj hi hj hN hz al hg hab hbn hn h9
  go_enter Tryd.func24, Tryd.ntmps24
  go_wp2_with fail
  go_at_call 34
  refine FI.out.mono ?_
  rintro e w0 ⟨rfl, hw0⟩
  obtain rfl := hw0.symm
  go_wp2_with fail
  go_at_call 34
  refine FJ.out.mono ?_
  rintro e w0 ⟨rfl, hw0⟩
  obtain rfl := hw0.symm
  go_wp2_with fail
  go_at_call 14
  refine LN.out.mono ?_
  rintro e w0 ⟨rfl, hw0⟩
  obtain rfl := hw0.symm
  go_wp2_with fail
  go_at_call 35
  have hal : a < ns.length := by have := HNN.out; omega
  have edr : ∀ k, a + k < ns.length → ∀ (h : a + k < ns.length), ns.drop (a + k) = ns[a + k] :: ns.drop (a + (k + 1)) := fun k _ h => by rw [List.drop_eq_getElem_cons h]; rfl
  have esp : ns = ns.take a ++ ns[a] :: ns.drop (a + 1) := by
    have := List.take_append_drop a ns
    rw [List.drop_eq_getElem_cons hal] at this
    exact this.symm
  obtain ⟨body1, sc1, hh1⟩ : Body w1 F ns ∧ Scores w1 (some m) (ns.map Nd.e) ∧ Head w1 q (some ⟨F, 0, none⟩) (some m) := by
    have := ST1.out
    cases this with
    | some hh b sc ap => exact ⟨b, sc, hh⟩
  have FN : Hid (Calls Tryd.prog 35 #[.pointer (some ⟨q, 0, none⟩), .int .i64 (a : Int)] w1 fun e w' => e = .returned (.pointer (pt (nx 0 (ns.drop a)).1)) ∧ Below w1.heap.size w1 w') := by
    have b2 := body1
    rw [esp] at b2
    have := find_walk w1 q F (ns.take a) (ns.drop (a + 1)) ns[a] hh1.front b2 (by rw [← esp, HN.out]; omega)
    have lt : ((ns.take a).length : Int) = (a : Int) := by rw [List.length_take]; omega
    rw [lt] at this
    have e2 : nx 0 (ns.drop a) = (some ns[a].b, 1) := by
      rw [List.drop_eq_getElem_cons hal, nx, if_pos (show 0 < ns[a].h from (body1.high _ (List.getElem_mem hal)).1)]
    rw [e2]
    exact this
  have BD := Lib.hid body1
  have EDR := Lib.hid edr
  clear body1 sc1 hh1 esp hal edr
  refine FN.out.mono ?_
  rintro e w2 ⟨rfl, hb2⟩
  have B2 := Lib.hid hb2
  obtain ⟨ls, hls⟩ : ∃ ls, (ns.drop a).take n = ls := ⟨_, rfl⟩
  have hll : ls.length = n := by rw [← hls, List.length_take, List.length_drop]; have := HNN.out; omega
  have LLS : Hid (∀ k (h : k < ls.length) (h2 : a + k < ns.length), ls[k] = ns[a + k]) := fun k h h2 => by
    subst hls
    rw [List.getElem_take, List.getElem_drop]
  have HLS := Lib.hid hls
  have HLL := Lib.hid hll
  have RI0 : Hid (RIn w2 g ls 0 w2) := ⟨Turn.refl _ _, fun j _ h => absurd h (Nat.not_lt_zero _), fun j hj => by
    obtain ⟨u, v, h0, h1⟩ := RM.out j (by rw [← hll]; exact hj)
    exact ⟨u, v, (hb2.cell (p := ⟨g, j * 2, none⟩) GL.out).trans h0, (hb2.cell (p := ⟨g, j * 2 + 1, none⟩) GL.out).trans h1⟩⟩
  clear hb2 hls hll FN FI FJ LN hmax hmin hw1 hgg mk
  go_wp2_with fail
  go_loopw [34, 8] (fun v34 v8 wr => ∃ k : Nat, k ≤ n ∧ v34 = .int .i64 (k : Int) ∧ v8 = .pointer (pt (nx 0 (ns.drop (a + k))).1) ∧ RIn w2 g ls k wr) (fun v34 _ _ => n - (intOf v34).toNat)
  case atStart => exact ⟨0, Nat.zero_le _, rfl, rfl, RI0.out⟩
  case round =>
    obtain ⟨k, hk, rfl, rfl, hin⟩ := hrel
    have HIN := Lib.hid hin
    have k0 : (0 : Int) ≤ (k : Int) := by omega
    by_cases hlt : k < n
    · have k1 : (k : Int) < (n : Int) := by omega
      have hak : a + k < ns.length := by have := HNN.out; omega
      have hkl : k < ls.length := by rw [HLL.out]; exact hlt
      obtain ⟨y, hy⟩ : ∃ y, ns[a + k] = y := ⟨_, rfl⟩
      have edk := EDR.out k hak hak
      rw [hy] at edk
      have yin : y ∈ ns := by rw [← hy]; exact List.getElem_mem hak
      have yls : ls[k] = y := by rw [LLS.out k hkl hak, hy]
      have y1 := (BD.out.high y yin).1
      have enx : nx 0 (ns.drop (a + k)) = (some y.b, 1) := by rw [edk, nx, if_pos (show 0 < y.h from y1)]
      rw [enx]
      show Code.wp _ _ _ _ _
      have bw := BD.out.below (B2.out)
      have nd := bw.nds y yin
      have lev := (bw.lev 0 (by decide)).2
      have lky : LinkAt w2 y.L 0 (ns.drop (a + (k + 1))) := by
        have e3 : ns = ns.take (a + k) ++ y :: ns.drop (a + (k + 1)) := by
          have := List.take_append_drop (a + k) ns
          rw [edk] at this
          exact this.symm
        rw [e3] at lev
        exact LevR.at_ lev y1
      have far : ∀ b, b < g → ∀ j, wr.cell? ⟨b, j, none⟩ = w2.cell? ⟨b, j, none⟩ := fun b hb j => hin.turn.cell _ (by have := GL.out; have := B2.out.size; show b < _; omega) fun e => by have e : b = g := e; omega
      obtain ⟨yb, hyb⟩ : ∃ b, y.b = b := ⟨_, rfl⟩
      obtain ⟨yL, hyL⟩ : ∃ b, y.L = b := ⟨_, rfl⟩
      obtain ⟨yh, hyh⟩ : ∃ b, y.h = b := ⟨_, rfl⟩
      obtain ⟨ss, hss⟩ : ∃ ss : ByteArray, (⟨y.s.toArray⟩ : ByteArray) = ss := ⟨_, rfl⟩
      obtain ⟨yv, hyv⟩ : ∃ yv, y.v = yv := ⟨_, rfl⟩
      have ltb : yb < g := by rw [← hyb, ← GG.out]; exact LT.out _ (mem_blocks.2 (.inr (.inr (.inr ⟨y, yin, .inl rfl⟩))))
      have ltL : yL < g := by rw [← hyL, ← GG.out]; exact LT.out _ (mem_blocks.2 (.inr (.inr (.inr ⟨y, yin, .inr rfl⟩))))
      have c0 : wr.cell? ⟨yb, 0, none⟩ = some (.string ss) := by rw [far yb ltb, ← hyb, ← hss]; exact nd.name
      have c1 : wr.cell? ⟨yb, 1, none⟩ = some (.int .i64 yv) := by rw [far yb ltb, ← hyb, ← hyv]; exact nd.score
      have c2 : wr.cell? ⟨yb, 2, none⟩ = some (.slice (some ⟨yL, 0, none⟩) yh yh) := by rw [far yb ltb, ← hyb, ← hyL, ← hyh]; exact nd.links
      obtain ⟨nxt, hnxt⟩ : ∃ nxt, pt (nx 0 (ns.drop (a + (k + 1)))).1 = nxt := ⟨_, rfl⟩
      have c3 : wr.cell? ⟨yL, 0, none⟩ = some (.pointer nxt) := by rw [far yL ltL, ← hyL, ← hnxt]; exact lky.to
      have NX := Lib.hid hnxt
      obtain ⟨u, v, r0, r1⟩ := hin.room k hkl
      have fr : ∀ j, wr.frozen? ⟨g, j, none⟩ = false := fun j => by rw [hin.turn.frozen _ (Nat.lt_of_lt_of_le GL.out B2.out.size), World.frozen?_of_block (B2.out.block g GL.out)]; exact FR.out j
      have neb : ¬ g = yb := by omega
      have neL : ¬ g = yL := by omega
      have yh1 : (0 : Int) < (yh : Int) := by omega
      have STEP : Hid (RIn w2 g ls (k + 1) ((wr.setCell ⟨g, k * 2, none⟩ (.string ss)).setCell ⟨g, k * 2 + 1, none⟩ (.int .i64 yv))) := by
        have := hin.step hkl
        rw [yls, hss, hyv] at this
        exact this
      rw [show pt (some y.b, 1).1 = some ⟨yb, 0, none⟩ from by rw [← hyb]; rfl]
      clear hin edk enx yin yls y1 bw nd lev lky far hyb hyL hyh hss hyv hnxt hy ltb ltL hkl
      go_wp2_with fail
      refine ⟨⟨k + 1, hlt, by go_num, by rw [NX.out], STEP.out⟩, by simp [intOf]; omega⟩
    · obtain rfl : k = n := by omega
      clear hlt hk
      go_wp2_with fail
      go_ret
      have bw : Below w.heap.size w wr := by
        have b1 := AL.out.trans (B2.out.mono AL.out.size)
        refine b1.trans ⟨HIN.out.turn.os, HIN.out.turn.tape, HIN.out.turn.output, HIN.out.turn.size, fun k hk => HIN.out.turn.block k (Nat.lt_of_lt_of_le hk b1.size) fun a ha e => ?_⟩
        have := GG.out
        rw [ha] at e
        omega
      have sl : SList wr (.slice (some ⟨g, 0, none⟩) k k) (ls.map Nd.e) := by
        refine ⟨some ⟨g, 0, none⟩, k, by rw [List.length_map, HLL.out], fun e => (nomatch e), by rw [List.length_map, HLL.out]; exact Nat.le_refl _, fun i hi => ⟨⟨g, 0, none⟩, rfl, Nat.lt_of_lt_of_le (Nat.lt_of_lt_of_le GL.out B2.out.size) HIN.out.turn.size, ?_, ?_⟩⟩
        · have hi' : i < ls.length := by rw [List.length_map] at hi; exact hi
          have := (HIN.out.done i hi' (by rw [← HLL.out]; exact hi')).1
          rw [Addr.add_lit, Nat.zero_add, this, List.getElem_map]
          rfl
        · have hi' : i < ls.length := by rw [List.length_map] at hi; exact hi
          have := (HIN.out.done i hi' (by rw [← HLL.out]; exact hi')).2
          rw [Addr.add_lit, Addr.add_lit, Nat.zero_add, this, List.getElem_map]
          rfl
      rw [← HLS.out, ← HND.out] at sl
      exact ⟨⟨_, rfl, by rw [← HND.out]; exact sl⟩, bw⟩
end
end Go.Proofs.YtopnbfhkfagemaaDoor
