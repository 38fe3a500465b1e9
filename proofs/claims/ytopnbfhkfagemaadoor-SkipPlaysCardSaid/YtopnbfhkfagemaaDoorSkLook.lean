/- Package skip: find, Rank, Below: places, told by a path. -/
import Derived.Test.YtopnbfhkfagemaaDoorSkRel
import Derived.Test.YtopnbfhkfagemaaDoorSkWkB
import Derived.Test.YtopnbfhkfagemaaDoorSkWkC
namespace Go.Proofs.YtopnbfhkfagemaaDoor
open Go.RowKit
set_option linter.unusedVariables false
set_option maxRecDepth 20000 in
set_option maxHeartbeats 1000000 in
theorem find_walk (w : World) (q F : Nat) (pre post : List Nd) (y : Nd) (hq : w.cell? ⟨q, 0, none⟩ = some (.pointer (some ⟨F, 0, none⟩))) (hb : Body w F (pre ++ y :: post)) (h9 : (pre ++ y :: post).length ≤ 1000) :
    Calls Tryd.prog 35 #[.pointer (some ⟨q, 0, none⟩), .int .i64 (pre.length : Int)] w fun e w' => e = .returned (.pointer (some ⟨y.b, 0, none⟩)) ∧ Below w.heap.size w w' := by
  have HB := Lib.hid hb
  have H9 := Lib.hid h9
  have HQ := Lib.hid hq
  have hal := zero40
  have hmf : ∀ (fn : Fn) (first cap : Array Value) (w : World), (Instr.makeFunc fn first cap).run Tryd.prog w = .ok (.func fn first cap) w := fun _ _ _ _ => rfl
  obtain ⟨yb, hyb⟩ : ∃ b, y.b = b := ⟨_, rfl⟩
  have YB := Lib.hid hyb
  rw [hyb]
  clear hb h9 hq hyb
  go_enter Tryd.func35, Tryd.ntmps35
  go_wp2_with fail
  go_at_call 32
  have al0 : Below w.heap.size w (w.alloc (.cells #[.int .i64 (pre.length : Int)] 3)) := (Below.refl _ w).alloc (Nat.le_refl _) _
  have cc : (w.alloc (.cells #[.int .i64 (pre.length : Int)] 3)).cell? ⟨w.heap.size, 0, none⟩ = some (.int .i64 (pre.length : Int)) := by rw [World.cell?_alloc_new]; rfl
  refine (walk_find _ q F pre (y :: post) ((al0.cell (p := ⟨q, 0, none⟩) (cell_in HQ.out)).trans HQ.out) (HB.out.below al0) (Nat.le_trans H9.out (by decide)) ⟨w.heap.size, 0, none⟩ fun W hW j hj => ?_).mono ?_
  · refine (find1_any W _ (.int .i64 0) w.heap.size j pre.length ((hW.cell (p := ⟨w.heap.size, 0, none⟩) (cell_in cc)).trans cc)).mono ?_
    rintro e w' ⟨rfl, hb'⟩
    exact ⟨by rw [show decide ((j : Int) < (pre.length : Int)) = decide (j < pre.length) from by rw [decide_eq_decide]; omega], hb'⟩
  rintro e w3 ⟨⟨cs, rfl, hpath⟩, hb3⟩
  have B3 : Hid (Below w.heap.size w w3) := al0.trans (hb3.mono al0.size)
  have HP := Lib.hid hpath
  clear hb3 hpath al0 cc
  have HI : Hid ((Tryd.prog.info? 79).map (·.size) = some cs.size) := by show _ = _; rw [HP.out.size]; exact info40
  have HO : Hid (zeros.size = cs.size) := by show _ = _; rw [HP.out.size]; exact zeros_size
  have H1 : Hid (cs.all (·.oneCell') = true) := by
    show _ = _
    rw [Array.all_eq_true_iff_forall_mem]
    exact HP.out.one
  have HZ : Hid (PRow (w3.alloc (.cells zeros 79)) w3.heap.size zeros) := heap_alloc_new _ _
  have B4 : Hid (Below w.heap.size w ((w3.alloc (.cells zeros 79)).setRow w3.heap.size cs)) := below_rowI (B3.out.alloc B3.out.size _) B3.out.size cs
  have PR4 : Hid (PRow ((w3.alloc (.cells zeros 79)).setRow w3.heap.size cs) w3.heap.size cs) := setRow_heap _ _ _ _ _ _ HZ.out
  obtain ⟨LB, Lc, hlow, l0, l1⟩ := HP.out.low fun y hy => (HB.out.high y (List.mem_append_left _ hy)).1
  have p0 : ((w3.alloc (.cells zeros 79)).setRow w3.heap.size cs).cell? ⟨w3.heap.size, 0, none⟩ = some (.pointer (some ⟨LB, 0, none⟩)) := (PR4.out.cell 0).trans l0
  have p1 : ((w3.alloc (.cells zeros 79)).setRow w3.heap.size cs).cell? ⟨w3.heap.size, 1, none⟩ = some (.int .i64 (pre.length : Int)) := (PR4.out.cell 1).trans l1
  have p2 : ((w3.alloc (.cells zeros 79)).setRow w3.heap.size cs).cell? ⟨LB, 0, none⟩ = some (.pointer (some ⟨yb, 0, none⟩)) := by
    have := (((HB.out.below B4.out).lev 0 (by decide)).at_ hlow).to
    have h0 : 0 < y.h := (HB.out.high y (by simp)).1
    rw [nx, if_pos h0, YB.out] at this
    exact this
  clear hlow l0 l1
  go_wp2_with (first
    | (refine wpList_store_row rfl 79 (.tmp 5) (.tmp 8) rfl w3.heap.size cs rfl rfl 79 _ HZ.out HI.out HO.out H1.out ?_)
    | (refine wp_store_row 79 (.tmp 5) (.tmp 8) rfl w3.heap.size cs rfl rfl 79 _ HZ.out HI.out HO.out H1.out ?_))
  go_ret
  exact ⟨rfl, B4.out⟩
set_option maxRecDepth 20000 in
set_option maxHeartbeats 1000000 in
theorem rank_walk (w : World) (q F m : Nat) (pre post : List Nd) (y : Nd) (st : St w q (some (F, m)) (pre ++ y :: post)) (ok : SkM.Ok ((pre ++ y :: post).map Nd.e)) (h9 : (pre ++ y :: post).length ≤ 1000) (s : ByteArray) (hs : s.data.toList = y.s) (hsz : s.size ≤ maxLen) :
    Calls Tryd.prog 18 #[.pointer (some ⟨q, 0, none⟩), .string s] w fun e w' => e = .returned (.tuple #[.int .i64 (pre.length : Int), .bool true]) ∧ Below w.heap.size w w' := by
  have SC := Lib.hid (score_any st s hsz)
  have hg : SkM.get ((pre ++ y :: post).map Nd.e) s.data.toList = some y.v := (SkM.get_some ok.names).2 (by rw [hs]; exact List.mem_map.2 ⟨y, by simp, rfl⟩)
  rw [hg] at SC
  have hord := ok.sorted
  rw [List.map_append, List.map_cons, List.pairwise_append, List.pairwise_cons] at hord
  cases st with
  | some h b sc a =>
  have HB := Lib.hid b
  have H9 := Lib.hid h9
  have HQ := Lib.hid h.front
  have HPA : Hid (∀ z ∈ pre, SkM.lt z.e (s.data.toList, y.v)) := by show ∀ z ∈ pre, _; rw [hs]; exact fun z hz => hord.2.2 z.e (List.mem_map.2 ⟨z, hz, rfl⟩) y.e List.mem_cons_self
  have HPB : Hid (∀ z ∈ y :: post, ¬ SkM.lt z.e (s.data.toList, y.v)) := by
    show ∀ z ∈ y :: post, _
    rw [hs]
    intro z hz
    rcases List.mem_cons.1 hz with rfl | hz
    · exact SkM.lt_irrefl _
    · exact SkM.lt_asymm (hord.2.1.1 z.e (List.mem_map.2 ⟨z, hz, rfl⟩))
  have hal := zero40
  obtain ⟨v, hv⟩ : ∃ v, y.v = v := ⟨_, rfl⟩
  rw [hv] at SC HPA HPB
  clear h b sc a h9 hord hg ok hs hsz hv
  go_enter Tryd.func18, Tryd.ntmps18
  go_wp2_with fail
  go_at_call 19
  refine SC.out.mono ?_
  rintro e w0 ⟨rfl, hw0⟩
  obtain rfl := hw0.symm
  rw [show (Option.some v).getD 0 = v from rfl, show (Option.some v).isSome = true from rfl]
  go_wp2_with fail
  go_at_call 33
  refine (front_made _ _ _).mono ?_
  rintro e w2 ⟨rfl, hw2⟩
  have al2 : Below w.heap.size w w2 := by rw [hw2]; exact (Below.refl _ w).alloc (Nat.le_refl _) _
  have k0 : w2.cell? ⟨w.heap.size, 0, none⟩ = some (.string s) := by rw [hw2, World.cell?_alloc_new]; rfl
  have k1 : w2.cell? ⟨w.heap.size, 1, none⟩ = some (.int .i64 v) := by rw [hw2, World.cell?_alloc_new]; rfl
  have AL2 := Lib.hid al2
  have K0 := Lib.hid k0
  have K1 := Lib.hid k1
  clear hw2 al2 k0 k1
  go_wp2_with fail
  go_at_call 32
  refine (path_front w2 q F w.heap.size pre (y :: post) s v ((AL2.out.cell (p := ⟨q, 0, none⟩) (cell_in HQ.out)).trans HQ.out) (HB.out.below AL2.out) (Nat.le_trans H9.out (by decide)) K0.out K1.out HPA.out HPB.out).mono ?_
  rintro e w3 ⟨⟨cs, rfl, hpath⟩, hb3⟩
  have B3 : Hid (Below w.heap.size w w3) := below_then AL2.out hb3
  have HP := Lib.hid hpath
  clear hb3 hpath AL2 K0 K1
  have HI : Hid ((Tryd.prog.info? 79).map (·.size) = some cs.size) := by show _ = _; rw [HP.out.size]; exact info40
  have HO : Hid (zeros.size = cs.size) := by show _ = _; rw [HP.out.size]; exact zeros_size
  have H1 : Hid (cs.all (·.oneCell') = true) := by
    show _ = _
    rw [Array.all_eq_true_iff_forall_mem]
    exact HP.out.one
  have HZ : Hid (PRow (w3.alloc (.cells zeros 79)) w3.heap.size zeros) := heap_alloc_new _ _
  have B4 : Hid (Below w.heap.size w ((w3.alloc (.cells zeros 79)).setRow w3.heap.size cs)) := below_rowI (B3.out.alloc B3.out.size _) B3.out.size cs
  have PR4 : Hid (PRow ((w3.alloc (.cells zeros 79)).setRow w3.heap.size cs) w3.heap.size cs) := setRow_heap _ _ _ _ _ _ HZ.out
  obtain ⟨LB, Lc, hlow, l0, l1⟩ := HP.out.low fun y hy => (HB.out.high y (List.mem_append_left _ hy)).1
  have p0 : ((w3.alloc (.cells zeros 79)).setRow w3.heap.size cs).cell? ⟨w3.heap.size, 0, none⟩ = some (.pointer (some ⟨LB, 0, none⟩)) := (PR4.out.cell 0).trans l0
  have p1 : ((w3.alloc (.cells zeros 79)).setRow w3.heap.size cs).cell? ⟨w3.heap.size, 1, none⟩ = some (.int .i64 (pre.length : Int)) := (PR4.out.cell 1).trans l1
  clear hlow l0 l1
  go_wp2_with (first
    | (refine wpList_store_row rfl 79 (.tmp 8) (.tmp 22) rfl w3.heap.size cs rfl rfl 79 _ HZ.out HI.out HO.out H1.out ?_)
    | (refine wp_store_row 79 (.tmp 8) (.tmp 22) rfl w3.heap.size cs rfl rfl 79 _ HZ.out HI.out HO.out H1.out ?_))
  go_ret2
  exact ⟨rfl, B4.out⟩
theorem rank_none {w : World} {q : Nat} {o : Option (Nat × Nat)} {ns : List Nd} (st : St w q o ns) (s : ByteArray) (hsz : s.size ≤ maxLen) (hg : SkM.get (ns.map Nd.e) s.data.toList = none) :
    Calls Tryd.prog 18 #[.pointer (some ⟨q, 0, none⟩), .string s] w fun e w' => e = .returned (.tuple #[.int .i64 0, .bool false]) ∧ w' = w := by
  have SC := Lib.hid (score_any st s hsz)
  rw [hg] at SC
  clear st hsz hg
  go_enter Tryd.func18, Tryd.ntmps18
  go_wp2_with fail
  go_at_call 19
  refine SC.out.mono ?_
  rintro e w0 ⟨rfl, hw0⟩
  obtain rfl := hw0.symm
  rw [show (none : Option Int).getD 0 = 0 from rfl, show (none : Option Int).isSome = false from rfl]
  go_wp2_with fail
  go_ret2
  exact ⟨rfl, rfl⟩
theorem below_none {w : World} {q : Nat} {o : Option (Nat × Nat)} (st : St w q o []) (n : Int) :
    Calls Tryd.prog 21 #[.pointer (some ⟨q, 0, none⟩), .int .i64 n] w fun e w' => e = .returned (.int .i64 0) ∧ Below w.heap.size w w' := by
  have al0 : Below w.heap.size w (w.alloc (.cells #[.int .i64 n] 2)) := (Below.refl _ w).alloc (Nat.le_refl _) _
  have LN := Lib.hid (len_any (st.same (fun b hb => al0.block b (st.lt b hb)) al0.size))
  have AL := Lib.hid al0
  clear st al0
  go_enter Tryd.func21, Tryd.ntmps21
  go_wp2_with fail
  go_at_call 14
  refine LN.out.mono ?_
  rintro e w0 ⟨rfl, hw0⟩
  obtain rfl := hw0.symm
  go_wp2_with fail
  go_ret
  exact ⟨rfl, AL.out⟩
set_option maxRecDepth 20000 in
set_option maxHeartbeats 1000000 in
theorem below_some (w : World) (q F m : Nat) (pre post : List Nd) (st : St w q (some (F, m)) (pre ++ post)) (h9 : (pre ++ post).length ≤ 1000) (h1 : 1 ≤ (pre ++ post).length) (n : Int) (ha : ∀ y ∈ pre, y.v < n) (hb : ∀ y ∈ post, ¬ y.v < n) :
    Calls Tryd.prog 21 #[.pointer (some ⟨q, 0, none⟩), .int .i64 n] w fun e w' => e = .returned (.int .i64 (pre.length : Int)) ∧ Below w.heap.size w w' := by
  have al0 : Below w.heap.size w (w.alloc (.cells #[.int .i64 n] 2)) := (Below.refl _ w).alloc (Nat.le_refl _) _
  have cc : (w.alloc (.cells #[.int .i64 n] 2)).cell? ⟨w.heap.size, 0, none⟩ = some (.int .i64 n) := by rw [World.cell?_alloc_new]; rfl
  have LN := Lib.hid (len_any (st.same (fun b hb => al0.block b (st.lt b hb)) al0.size))
  have AL := Lib.hid al0
  have CC := Lib.hid cc
  cases st with
  | some h b sc a =>
  have HB := Lib.hid b
  have H9 := Lib.hid h9
  have HQ := Lib.hid h.front
  have HPA := Lib.hid ha
  have HPB := Lib.hid hb
  have hal := zero40
  have hmf : ∀ (fn : Fn) (first cap : Array Value) (w : World), (Instr.makeFunc fn first cap).run Tryd.prog w = .ok (.func fn first cap) w := fun _ _ _ _ => rfl
  obtain ⟨L, hL⟩ : ∃ L, (pre ++ post).length = L := ⟨_, rfl⟩
  rw [hL] at LN h1
  have L1 : (1 : Int) ≤ (L : Int) := by omega
  clear h b sc a h9 ha hb al0 cc hL h1
  go_enter Tryd.func21, Tryd.ntmps21
  go_wp2_with fail
  go_at_call 14
  refine LN.out.mono ?_
  rintro e w0 ⟨rfl, hw0⟩
  obtain rfl := hw0.symm
  go_wp2_with fail
  go_at_call 32
  refine (walk_below _ q F pre post ((AL.out.cell (p := ⟨q, 0, none⟩) (cell_in HQ.out)).trans HQ.out) (HB.out.below AL.out) (Nat.le_trans H9.out (by decide)) ⟨w.heap.size, 0, none⟩ fun W hW j hj => ?_).mono ?_
  · obtain ⟨y, hy⟩ : ∃ y, (pre ++ post)[j] = y := ⟨_, rfl⟩
    have yin : y ∈ pre ++ post := by rw [← hy]; exact List.getElem_mem hj
    have nd := ((HB.out.below AL.out).below hW).nds y yin
    rw [hy]
    refine (below1_any W y.b w.heap.size (.int .i64 j) y.v n nd.score ((hW.cell (p := ⟨w.heap.size, 0, none⟩) (cell_in CC.out)).trans CC.out)).mono ?_
    rintro e w' ⟨rfl, hb'⟩
    refine ⟨?_, hb'⟩
    have : decide (y.v < n) = decide (j < pre.length) := by
      by_cases hlt : j < pre.length
      · rw [decide_eq_true hlt]
        exact decide_eq_true (HPA.out y (by rw [← hy, List.getElem_append_left hlt]; exact List.getElem_mem hlt))
      · rw [decide_eq_false hlt]
        exact decide_eq_false (by have := HPB.out y (by rw [← hy, List.getElem_append_right (by omega)]; exact List.getElem_mem _); omega)
    rw [this]
  rintro e w3 ⟨⟨cs, rfl, hpath⟩, hb3⟩
  have B3 : Hid (Below w.heap.size w w3) := AL.out.trans (hb3.mono AL.out.size)
  have HP := Lib.hid hpath
  clear hb3 hpath CC
  have HI : Hid ((Tryd.prog.info? 79).map (·.size) = some cs.size) := by show _ = _; rw [HP.out.size]; exact info40
  have HO : Hid (zeros.size = cs.size) := by show _ = _; rw [HP.out.size]; exact zeros_size
  have H1 : Hid (cs.all (·.oneCell') = true) := by
    show _ = _
    rw [Array.all_eq_true_iff_forall_mem]
    exact HP.out.one
  have HZ : Hid (PRow (w3.alloc (.cells zeros 79)) w3.heap.size zeros) := heap_alloc_new _ _
  have B4 : Hid (Below w.heap.size w ((w3.alloc (.cells zeros 79)).setRow w3.heap.size cs)) := below_rowI (B3.out.alloc B3.out.size _) B3.out.size cs
  have PR4 : Hid (PRow ((w3.alloc (.cells zeros 79)).setRow w3.heap.size cs) w3.heap.size cs) := setRow_heap _ _ _ _ _ _ HZ.out
  obtain ⟨LB, Lc, hlow, l0, l1⟩ := HP.out.low fun y hy => (HB.out.high y (List.mem_append_left _ hy)).1
  have p0 : ((w3.alloc (.cells zeros 79)).setRow w3.heap.size cs).cell? ⟨w3.heap.size, 0, none⟩ = some (.pointer (some ⟨LB, 0, none⟩)) := (PR4.out.cell 0).trans l0
  have p1 : ((w3.alloc (.cells zeros 79)).setRow w3.heap.size cs).cell? ⟨w3.heap.size, 1, none⟩ = some (.int .i64 (pre.length : Int)) := (PR4.out.cell 1).trans l1
  clear hlow l0 l1
  go_wp2_with (first
    | (refine wpList_store_row rfl 79 (.tmp 5) (.tmp 11) rfl w3.heap.size cs rfl rfl 79 _ HZ.out HI.out HO.out H1.out ?_)
    | (refine wp_store_row 79 (.tmp 5) (.tmp 11) rfl w3.heap.size cs rfl rfl 79 _ HZ.out HI.out HO.out H1.out ?_))
  go_ret
  exact ⟨rfl, B4.out⟩
end Go.Proofs.YtopnbfhkfagemaaDoor
