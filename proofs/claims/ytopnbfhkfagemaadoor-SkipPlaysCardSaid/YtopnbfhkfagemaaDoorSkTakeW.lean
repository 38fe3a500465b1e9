/- Package skip: take: the name with a score taken out. -/
import Derived.Test.YtopnbfhkfagemaaDoorSkInsW
namespace Go.Proofs.YtopnbfhkfagemaaDoor
open Go.RowKit
set_option linter.unusedVariables false
set_option maxRecDepth 20000 in
set_option maxHeartbeats 8000000 in
theorem take_walk (W : World) (q F m : Nat) (pre post : List Nd) (x : Nd) (l : List SkM.E) (hq0 : W.cell? ⟨q, 0, none⟩ = some (.pointer (some ⟨F, 0, none⟩))) (hq1 : W.cell? ⟨q, 1, none⟩ = some (.map (some m))) (hb : Body W F (pre ++ x :: post)) (hsc : Scores W (some m) l) (hok : SkM.Ok l)
    (s : ByteArray) (hs : s.data.toList = x.s) (hxs : s.size ≤ maxLen) (hap : Apt q F m (pre ++ x :: post)) (h9 : (pre ++ x :: post).length ≤ 1000) (ha : ∀ y ∈ pre, SkM.lt y.e x.e) (hbb : ∀ y ∈ x :: post, ¬ SkM.lt y.e x.e) :
    Calls Tryd.prog 28 #[.pointer (some ⟨q, 0, none⟩), .agg #[.string s, .int .i64 x.v]] W fun e w' => e = .returned (.pointer (some ⟨x.b, 0, none⟩)) ∧ Body w' F (pre ++ post) ∧ NdAt w' x ∧ Room w' x 0 ∧ Scores w' (some m) (SkM.del l x.s) ∧ Only (fun k => k = F ∨ k = m ∨ ∃ y ∈ pre ++ x :: post, k = y.L) W w' := by
  obtain ⟨v, hv⟩ : ∃ v, x.v = v := ⟨_, rfl⟩
  obtain ⟨xb, hxb⟩ : ∃ b, x.b = b := ⟨_, rfl⟩
  obtain ⟨xL, hxL⟩ : ∃ b, x.L = b := ⟨_, rfl⟩
  have HSD := Lib.hid hs
  have XV := Lib.hid hv
  have XB := Lib.hid hxb
  have XL := Lib.hid hxL
  have HB := Lib.hid hb
  have HS := Lib.hid hsc
  have HOK := Lib.hid hok
  have HSZ := Lib.hid hxs
  have HAP := Lib.hid hap
  have H9 : Hid ((pre ++ x :: post).length ≤ 100000) := Nat.le_trans h9 (by decide)
  have HPA : Hid (∀ y ∈ pre, SkM.lt y.e (s.data.toList, v)) := by show ∀ y ∈ pre, _; rw [hs, ← hv]; exact ha
  have HPB : Hid (∀ y ∈ x :: post, ¬ SkM.lt y.e (s.data.toList, v)) := by show ∀ y ∈ x :: post, _; rw [hs, ← hv]; exact hbb
  rw [hxb, hv]
  have hal := zero40
  obtain ⟨w1, hrun, hsc1, hg1⟩ := ((HS.out.same (w' := (W.alloc (.cells #[.string s, .int .i64 v] 30)).drew) fun b e => by
    injection e with e
    subst e
    exact ((Below.refl _ W).alloc (Nat.le_refl _) (.cells #[.string s, .int .i64 v] 30)).block _ HS.out.lt)).drop HOK.out s HSZ.out 0
  clear hb hsc hok hxs hap h9 ha hbb hs hv hxb hxL
  have al0 : Below W.heap.size W (W.alloc (.cells #[.string s, .int .i64 v] 30)).drew := ((Below.refl _ W).alloc (Nat.le_refl _) _).drew
  have bodyA : Body (W.alloc (.cells #[.string s, .int .i64 v] 30)).drew F (pre ++ x :: post) := HB.out.below al0
  have hbody1 := bodyA.grown HAP.out hg1
  have hqA : (W.alloc (.cells #[.string s, .int .i64 v] 30)).cell? ⟨q, 1, none⟩ = some (.map (some m)) := (al0.cell (p := ⟨q, 1, none⟩) (cell_in hq1)).trans hq1
  have hq1' : w1.cell? ⟨q, 0, none⟩ = some (.pointer (some ⟨F, 0, none⟩)) := (World.cell?_of_block (hg1.block q (Nat.lt_of_lt_of_le (cell_in hq0) al0.size) fun e => by injection e with e; exact HAP.out.qm e)).trans ((al0.cell (p := ⟨q, 0, none⟩) (cell_in hq0)).trans hq0)
  have kb : ∀ i, w1.cell? ⟨W.heap.size, i, none⟩ = (W.alloc (.cells #[.string s, .int .i64 v] 30)).drew.cell? ⟨W.heap.size, i, none⟩ := fun i => World.cell?_of_block (hg1.block _ (by show W.heap.size < (W.heap.push _).size; simp) fun e => by injection e with e; have e : m = W.heap.size := e.symm; have := HS.out.lt; rw [e] at this; exact Nat.lt_irrefl _ this)
  have n0 : w1.cell? ⟨W.heap.size, 0, none⟩ = some (.string s) := by rw [kb 0, World.cell?_drew, World.cell?_alloc_new]; rfl
  have n1 : w1.cell? ⟨W.heap.size, 1, none⟩ = some (.int .i64 v) := by rw [kb 1, World.cell?_drew, World.cell?_alloc_new]; rfl
  have GW := Lib.hid hg1
  have SC1 := Lib.hid hsc1
  have BD1 := Lib.hid hbody1
  have Q1 := Lib.hid hq1'
  have AL0 := Lib.hid al0
  clear hg1 hsc1 hbody1 hq1' bodyA kb hq0 al0
  go_enter Tryd.func28, Tryd.ntmps28
  go_wp2_with fail
  go_region
  clear hrun hqA
  go_wp2_with fail
  go_at_call 33
  refine (front_made _ _ _).mono ?_
  rintro e w2 ⟨rfl, hw2⟩
  have al2 : Below w1.heap.size w1 w2 := by rw [hw2]; exact (Below.refl _ w1).alloc (Nat.le_refl _) _
  have k0 : w2.cell? ⟨w1.heap.size, 0, none⟩ = some (.string s) := by rw [hw2, World.cell?_alloc_new]; rfl
  have k1 : w2.cell? ⟨w1.heap.size, 1, none⟩ = some (.int .i64 v) := by rw [hw2, World.cell?_alloc_new]; rfl
  have AL2 := Lib.hid al2
  have K0 := Lib.hid k0
  have K1 := Lib.hid k1
  clear hw2 al2 k0 k1
  go_wp2_with fail
  go_at_call 32
  refine (path_front w2 q F w1.heap.size pre (x :: post) s v ((AL2.out.cell (p := ⟨q, 0, none⟩) (cell_in Q1.out)).trans Q1.out) (BD1.out.below AL2.out) H9.out K0.out K1.out HPA.out HPB.out).mono ?_
  rintro e w3 ⟨⟨cs, rfl, hpath⟩, hb3⟩
  have B3 : Hid (Below w1.heap.size w1 w3) := below_then AL2.out hb3
  have HP := Lib.hid hpath
  clear hb3 hpath AL2 K0 K1 n0 n1
  have HI : Hid ((Tryd.prog.info? 79).map (·.size) = some cs.size) := by show _ = _; rw [HP.out.size]; exact info40
  have HO : Hid (zeros.size = cs.size) := by show _ = _; rw [HP.out.size]; exact zeros_size
  have H1 : Hid (cs.all (·.oneCell') = true) := by
    show _ = _
    rw [Array.all_eq_true_iff_forall_mem]
    exact HP.out.one
  have HZ : Hid (PRow (w3.alloc (.cells zeros 79)) w3.heap.size zeros) := heap_alloc_new _ _
  have B4 : Hid (Below w1.heap.size w1 ((w3.alloc (.cells zeros 79)).setRow w3.heap.size cs)) := below_rowI (B3.out.alloc B3.out.size _) B3.out.size cs
  have PR4 : Hid (PRow ((w3.alloc (.cells zeros 79)).setRow w3.heap.size cs) w3.heap.size cs) := setRow_heap _ _ _ _ _ _ HZ.out
  have BD4' := BD1.out.below B4.out
  obtain ⟨LB, Lc, hlow, l0, l1⟩ := HP.out.low fun y hy => (BD1.out.high y (List.mem_append_left _ hy)).1
  have p0 : ((w3.alloc (.cells zeros 79)).setRow w3.heap.size cs).cell? ⟨w3.heap.size, 0, none⟩ = some (.pointer (some ⟨LB, 0, none⟩)) := (PR4.out.cell 0).trans l0
  have p1 : ((w3.alloc (.cells zeros 79)).setRow w3.heap.size cs).cell? ⟨LB, 0, none⟩ = some (.pointer (some ⟨xb, 0, none⟩)) := by
    have := ((BD4'.lev 0 (by decide)).at_ hlow).to
    have h0 : 0 < x.h := (BD1.out.high x (by simp)).1
    rw [nx, if_pos h0, XB.out] at this
    exact this
  go_wp2_with (first
    | (refine wpList_load_row rfl 79 (.tmp 5) rfl w3.heap.size rfl 79 _ (0, 0) _ PR4.out Tryd.underlying79 rfl HI.out ?_)
    | (refine wp_load_row 79 (.tmp 5) rfl w3.heap.size rfl 79 _ (0, 0) _ PR4.out Tryd.underlying79 rfl HI.out ?_)
    | (refine wpList_store_row rfl 79 (.tmp 5) (.tmp 18) rfl w3.heap.size cs rfl rfl 79 _ HZ.out HI.out HO.out H1.out ?_)
    | (refine wp_store_row 79 (.tmp 5) (.tmp 18) rfl w3.heap.size cs rfl rfl 79 _ HZ.out HI.out HO.out H1.out ?_))
  obtain ⟨w4, hw4⟩ : ∃ w4, (w3.alloc (.cells zeros 79)).setRow w3.heap.size cs = w4 := ⟨_, rfl⟩
  obtain ⟨g, hg⟩ : ∃ g, w3.heap.size = g := ⟨_, rfl⟩
  have G1 : Hid (w1.heap.size ≤ g) := by show _ ≤ _; rw [← hg]; exact B3.out.size
  rw [hw4] at B4 PR4 ⊢
  rw [hg] at PR4 ⊢
  clear hw4 hg HI HO H1 HZ hal B3 BD4' hlow l0 l1 p0 p1
  have BD4 : Hid (Body w4 F (pre ++ x :: post)) := BD1.out.below B4.out
  have XI : x ∈ pre ++ x :: post := by simp
  have RO4 : Hid (Room w4 x 0) := fun l _ h => by
    have l20 : l < 20 := Nat.lt_of_lt_of_le h (BD1.out.high x XI).2
    have := (BD4.out.lev l l20).2
    have := LevR.at_ this h
    exact ⟨_, _, this.to, this.width⟩
  have GN : Hid (∀ a : Addr, a.block = g → ¬ Ln F (pre ++ x :: post) a) := fun a ha k => by
    have h1 := G1.out
    rcases k with k | ⟨y, hy, k⟩
    · have := BD1.out.ltF; omega
    · have := (BD1.out.nds y hy).ltL; omega
  go_loopw [26] (fun j wr => ∃ i : Nat, i ≤ 20 ∧ j = .int .i64 (i : Int) ∧ LOut w4 F i x pre post wr) (fun j _ => 20 - (intOf j).toNat)
  case atStart => exact ⟨0, by decide, rfl, ⟨Turn.refl _ _, ⟨fun l h => absurd h (Nat.not_lt_zero _), fun l _ h => BD4.out.lev l h⟩, RO4.out⟩⟩
  case round =>
    obtain ⟨i, hi, rfl, hin⟩ := hrel
    have HIN := Lib.hid hin
    have i0 : (0 : Int) ≤ (i : Int) := by omega
    by_cases hlt : i < 20
    · obtain ⟨P, A, B, c, e, hA, ho, h0, h1⟩ := HP.out.at_ i (Nat.zero_le _) hlt
      have hidx := run_step hlt HP.out.size h0 h1
      have i1 : (i : Int) < 20 := by omega
      have I9 := Lib.hid hlt
      have HE := Lib.hid e
      have HA := Lib.hid hA
      have HH := Lib.hid ho
      have hnd : NdAt wr x := (BD4.out.nds x XI).turn hin.turn fun j k => by
        rcases k with k | ⟨y, hy, k⟩
        · exact (HAP.out.F_ x XI).1 k.symm
        · exact HAP.out.bL x XI y hy k
      obtain ⟨p, hp⟩ : ∃ p, P.length = p := ⟨_, rfl⟩
      have p9 : (p : Int) ≤ 100000 := by
        have h := H9.out
        rw [e] at h
        simp only [List.length_append] at h
        omega
      have p0 : (0 : Int) ≤ (p : Int) := by omega
      rw [hp] at hidx
      have lk := hin.mid.hi i (Nat.le_refl _) hlt
      rw [e, List.append_assoc] at lk
      have lk := lk.at_ ho
      obtain ⟨xh, hxh⟩ : ∃ k, x.h = k := ⟨_, rfl⟩
      have far : ∀ o, Below wr.heap.size wr (wr.alloc o) := fun o => (Below.refl _ wr).alloc (Nat.le_refl _) o
      obtain ⟨o, hoo⟩ : ∃ o, pt (nx i (A ++ x :: post)).1 = o := ⟨_, rfl⟩
      obtain ⟨n, hnn⟩ : ∃ n : Nat, (nx i (A ++ x :: post)).2 = n := ⟨_, rfl⟩
      have n9 : (n : Int) ≤ 100000 := by
        have h1 := nx_le i (A ++ x :: post)
        have h2 := H9.out
        rw [e] at h2
        rw [hnn] at h1
        simp only [List.length_append] at h1 h2
        omega
      have n0 : (0 : Int) ≤ (n : Int) := by omega
      have hBl : B < wr.heap.size := cell_in lk.to
      obtain ⟨ob, hob⟩ : ∃ ob, wr.heap.size = ob := ⟨_, rfl⟩
      have neC : ¬ B = ob := by omega
      have OO := Lib.hid (And.intro hoo hnn)
      have freeB : ∀ j, wr.frozen? ⟨B, j, none⟩ = false := fun j => by
        rw [hin.turn.frozen _ (by
          rcases ho with ⟨-, h, -⟩ | ⟨P', y, ey, h, -, -⟩
          · rw [h]; exact BD4.out.ltF
          · rw [h]; exact (BD4.out.nds y (by rw [e, ey]; simp)).ltL)]
        rcases ho with ⟨-, h, -⟩ | ⟨P', y, ey, h, -, -⟩
        · rw [h]; exact BD4.out.freeF j
        · rw [h]; exact (BD4.out.nds y (by rw [e, ey]; simp)).freeL j
      obtain ⟨wr2, hwr2⟩ : ∃ wr2, wr.alloc (.cells #[.pointer (some ⟨B, i * 2, none⟩), .int .i64 (p : Int)] 77) = wr2 := ⟨_, rfl⟩
      have hb2 : Below wr.heap.size wr wr2 := by rw [← hwr2]; exact far _
      have o0 : wr2.cell? ⟨ob, 0, none⟩ = some (.pointer (some ⟨B, i * 2, none⟩)) := by rw [← hwr2, ← hob, World.cell?_alloc_new]; rfl
      have o1 : wr2.cell? ⟨ob, 1, none⟩ = some (.int .i64 (p : Int)) := by rw [← hwr2, ← hob, World.cell?_alloc_new]; rfl
      have obl : ob < wr2.heap.size := cell_in o0
      have r2 : wr2.cell? ⟨xb, 2, none⟩ = some (.slice (some ⟨xL, 0, none⟩) xh xh) := (hb2.cell (p := ⟨xb, 2, none⟩) (by have := hnd.lt; rw [XB.out] at this; exact this)).trans (by have := hnd.links; rw [XB.out, XL.out, hxh] at this; exact this)
      have keep : ∀ W, Below wr2.heap.size wr2 W → Below wr.heap.size wr W ∧ W.cell? ⟨xb, 2, none⟩ = some (.slice (some ⟨xL, 0, none⟩) xh xh) ∧ W.cell? ⟨ob, 0, none⟩ = some (.pointer (some ⟨B, i * 2, none⟩)) ∧ W.cell? ⟨ob, 1, none⟩ = some (.int .i64 (p : Int)) ∧ W.cell? ⟨B, i * 2, none⟩ = some (.pointer o) ∧ W.cell? ⟨B, i * 2 + 1, none⟩ = some (.int .i64 (n : Int)) ∧ (∀ j, W.frozen? ⟨B, j, none⟩ = false) ∧ (i < x.h → W.cell? ⟨xL, i * 2, none⟩ = some (.pointer (pt (nx i post).1)) ∧ W.cell? ⟨xL, i * 2 + 1, none⟩ = some (.int .i64 ((nx i post).2 : Int))) := fun W hW => by
        have t := below_then hb2 hW
        have lkW := lk.turn (Turn.of_below (D := fun _ => False) t) (fun e => e) (fun e => e)
        have ndW := hnd.turn (Turn.of_below (D := fun _ => False) t) fun _ e => e
        refine ⟨t, ?_, (hW.cell (p := ⟨ob, 0, none⟩) obl).trans o0, (hW.cell (p := ⟨ob, 1, none⟩) obl).trans o1, ?_, ?_, fun j => (World.frozen?_of_block (t.block _ hBl)).trans (freeB j), fun k => ?_⟩
        · have := ndW.links; rw [XB.out, XL.out, hxh] at this; exact this
        · rw [← hoo]; exact lkW.to
        · rw [← hnn]; exact lkW.width
        · have q1 := (hin.mid.hi i (Nat.le_refl _) hlt).2
          have q2 := (LevR.at_ q1 k).turn (Turn.of_below (D := fun _ => False) t) (fun e => e) (fun e => e)
          rw [XL.out] at q2
          exact ⟨q2.to, q2.width⟩
      have l9 : ((nx i post).2 : Int) ≤ 100000 := by
        have h1 := nx_le i post
        have h2 := H9.out
        simp only [List.length_append, List.length_cons] at h2
        omega
      by_cases hx : i < xh
      · have x1 : (i : Int) < (xh : Int) := by omega
        have hX : i < x.h := by rw [hxh]; exact hx
        have low := nx_low (x := x) (post := post) hX hA
        have hn1 : (n : Int) - 1 = (A.length : Int) := by rw [← hnn, low]; show ((A.length + 1 : Nat) : Int) - 1 = _; omega
        have sk := nx_skip i A post hA
        have hlon : lonV (pt (nx i post).1) ((nx i post).2 : Int) ((n : Int) - 1) = .agg #[.pointer (pt (nx i (A ++ post)).1), .int .i64 ((nx i (A ++ post)).2 : Int)] := by
          have fs : (nx i (A ++ post)).1 = (nx i post).1 := by rw [sk, lon_fst]
          rw [fs]
          refine lonV_is _ _ _ _ (fun h => ?_) (fun h => ?_)
          · rw [sk, hn1]
            rcases nx_cases i post with ⟨q1, -⟩ | ⟨A', y, C, -, -, -, q1⟩
            · rw [q1] at h; exact absurd rfl h
            · rw [q1]; rfl
          · rw [sk]
            rcases nx_cases i post with ⟨q1, -⟩ | ⟨A', y, C, -, -, -, q1⟩
            · rw [q1]; rfl
            · rw [q1] at h; cases h
        have m1 : IntKind.i64.wrap ((n : Int) - 1) = (n : Int) - 1 := by simp [IntKind.wrap, IntKind.bits, IntKind.signed]; omega
        obtain ⟨u, hu⟩ : ∃ u, pt (nx i post).1 = u := ⟨_, rfl⟩
        obtain ⟨k, hk⟩ : ∃ k : Nat, (nx i post).2 = k := ⟨_, rfl⟩
        obtain ⟨u2, hu2⟩ : ∃ u2, pt (nx i (A ++ post)).1 = u2 := ⟨_, rfl⟩
        obtain ⟨k2, hk2⟩ : ∃ k2 : Nat, (nx i (A ++ post)).2 = k2 := ⟨_, rfl⟩
        have FIN := Lib.hid (And.intro hu2 hk2)
        rw [hu, hk, hu2, hk2] at hlon
        have HLON := Lib.hid hlon
        rw [hk] at l9
        have KEEP : Hid (∀ W, Below wr2.heap.size wr2 W → Below wr.heap.size wr W ∧ W.cell? ⟨xb, 2, none⟩ = some (.slice (some ⟨xL, 0, none⟩) xh xh) ∧ W.cell? ⟨ob, 0, none⟩ = some (.pointer (some ⟨B, i * 2, none⟩)) ∧ W.cell? ⟨ob, 1, none⟩ = some (.int .i64 (p : Int)) ∧ W.cell? ⟨B, i * 2, none⟩ = some (.pointer o) ∧ W.cell? ⟨B, i * 2 + 1, none⟩ = some (.int .i64 (n : Int)) ∧ (∀ j, W.frozen? ⟨B, j, none⟩ = false) ∧ W.cell? ⟨xL, i * 2, none⟩ = some (.pointer u) ∧ W.cell? ⟨xL, i * 2 + 1, none⟩ = some (.int .i64 (k : Int))) := fun W hW => by
          obtain ⟨k0, k1, k2, k3, k4, k5, k6, k7⟩ := keep W hW
          obtain ⟨h1, h2⟩ := k7 hX
          exact ⟨k0, k1, k2, k3, k4, k5, k6, by rw [← hu]; exact h1, by rw [← hk]; exact h2⟩
        have lk0 : (0 : Int) ≤ (k : Int) := by omega
        clear hin e hA ho h0 h1 hnd hp lk hxh far hlt hoo hnn hBl freeB hb2 obl keep hx hlon hX low hn1 sk hu hk hu2 hk2
        go_wp2_with fail
        clear hwr2 hob r2 o0 o1 hidx
        refine wp_region_tail_list (S := fun W => Below wr2.heap.size wr2 W) (by simp) (by kernel_rfl) (by kernel_rfl) ((Below.refl _ wr2).drew) (fun hHeld => ?_)
        simp only [List.dropLast_cons_cons, List.dropLast_singleton, List.getLast_cons_cons, List.getLast_singleton, List.length_cons, List.length_nil, Nat.reduceAdd]
        refine wpAnyH_take (i := 0) (v := ?_) rfl (by kernel_rfl) (by kernel_rfl) (by kernel_rfl) (fun _ _ _ h => h) (Or.inl ⟨by rfl, ?_⟩) hHeld ?_
        rotate_left
        · intro W hSw; obtain ⟨y0, y1, y2, y3, y4, y5, y6, y7, y8⟩ := KEEP.out W hSw; go_simp; try with_reducible rfl
        refine wpAnyH_take (i := 1) (v := ?_) rfl (by kernel_rfl) (by kernel_rfl) (by kernel_rfl) (fun _ _ _ h => h) (Or.inl ⟨by rfl, ?_⟩) hHeld ?_
        rotate_left
        · intro W hSw; obtain ⟨y0, y1, y2, y3, y4, y5, y6, y7, y8⟩ := KEEP.out W hSw; go_simp; try with_reducible rfl
        refine wpAnyH_take (i := 2) (v := ?_) rfl (by kernel_rfl) (by kernel_rfl) (by kernel_rfl) (fun _ _ _ h => h) (Or.inl ⟨by rfl, ?_⟩) hHeld ?_
        rotate_left
        · intro W hSw; obtain ⟨y0, y1, y2, y3, y4, y5, y6, y7, y8⟩ := KEEP.out W hSw; go_simp; try with_reducible rfl
        refine wpAnyH_take (i := 3) (v := ?_) rfl (by kernel_rfl) (by kernel_rfl) (by kernel_rfl) (fun _ _ _ h => h) (Or.inl ⟨by rfl, ?_⟩) hHeld ?_
        rotate_left
        · intro W hSw; obtain ⟨y0, y1, y2, y3, y4, y5, y6, y7, y8⟩ := KEEP.out W hSw; go_simp; try with_reducible rfl
        refine wpAnyH_take (i := 4) (v := ?_) rfl (by kernel_rfl) (by kernel_rfl) (by kernel_rfl) (fun _ _ _ h => h) (Or.inl ⟨by rfl, ?_⟩) hHeld ?_
        rotate_left
        · intro W hSw; obtain ⟨y0, y1, y2, y3, y4, y5, y6, y7, y8⟩ := KEEP.out W hSw; go_simp; try with_reducible rfl
        refine wpAnyH_take (i := 5) (v := ?_) rfl (by kernel_rfl) (by kernel_rfl) (by kernel_rfl) (fun _ _ _ h => h) (Or.inl ⟨by rfl, ?_⟩) hHeld ?_
        rotate_left
        · intro W hSw; obtain ⟨y0, y1, y2, y3, y4, y5, y6, y7, y8⟩ := KEEP.out W hSw; go_simp; try with_reducible rfl
        refine wpAnyH_take (i := 6) (v := ?_) rfl (by kernel_rfl) (by kernel_rfl) (by kernel_rfl) (fun _ _ _ h => h) (Or.inl ⟨by rfl, ?_⟩) hHeld ?_
        rotate_left
        · intro W hSw; obtain ⟨y0, y1, y2, y3, y4, y5, y6, y7, y8⟩ := KEEP.out W hSw; go_simp; try with_reducible rfl
        refine wpAnyH_take (i := 7) (v := ?_) rfl (by kernel_rfl) (by kernel_rfl) (by kernel_rfl) (fun _ _ _ h => h) (Or.inl ⟨by rfl, ?_⟩) hHeld ?_
        rotate_left
        · intro W hSw; obtain ⟨y0, y1, y2, y3, y4, y5, y6, y7, y8⟩ := KEEP.out W hSw; go_simp; try with_reducible rfl
        refine wpAnyH_take (i := 8) (v := ?_) rfl (by kernel_rfl) (by kernel_rfl) (by kernel_rfl) (fun _ _ _ h => h) (Or.inl ⟨by rfl, ?_⟩) hHeld ?_
        rotate_left
        · intro W hSw; obtain ⟨y0, y1, y2, y3, y4, y5, y6, y7, y8⟩ := KEEP.out W hSw; go_simp; try with_reducible rfl
        refine wpAnyH_take (i := 9) (v := ?_) rfl (by kernel_rfl) (by kernel_rfl) (by kernel_rfl) (fun _ _ _ h => h) (Or.inl ⟨by rfl, ?_⟩) hHeld ?_
        rotate_left
        · intro W hSw; obtain ⟨y0, y1, y2, y3, y4, y5, y6, y7, y8⟩ := KEEP.out W hSw; go_simp; try with_reducible rfl
        refine wpAnyH_take (i := 10) (v := ?_) rfl (by kernel_rfl) (by kernel_rfl) (by kernel_rfl) (fun _ _ _ h => h) (Or.inl ⟨by rfl, ?_⟩) hHeld ?_
        rotate_left
        · intro W hSw; obtain ⟨y0, y1, y2, y3, y4, y5, y6, y7, y8⟩ := KEEP.out W hSw; go_simp; try with_reducible rfl
        refine wpAnyH_take (i := 11) (v := ?_) rfl (by kernel_rfl) (by kernel_rfl) (by kernel_rfl) (fun _ _ _ h => h) (Or.inl ⟨by rfl, ?_⟩) hHeld ?_
        rotate_left
        · intro W hSw; obtain ⟨y0, y1, y2, y3, y4, y5, y6, y7, y8⟩ := KEEP.out W hSw; go_simp; try with_reducible rfl
        refine wpAnyH_take (i := 12) (v := ?_) rfl (by kernel_rfl) (by kernel_rfl) (by kernel_rfl) (fun _ _ _ h => h) (Or.inl ⟨by rfl, ?_⟩) hHeld ?_
        rotate_left
        · intro W hSw; obtain ⟨y0, y1, y2, y3, y4, y5, y6, y7, y8⟩ := KEEP.out W hSw; go_simp; try with_reducible rfl
        refine wpAnyH_take (i := 13) (v := ?_) rfl (by kernel_rfl) (by kernel_rfl) (by kernel_rfl) (fun _ _ _ h => h) (Or.inl ⟨by rfl, ?_⟩) hHeld ?_
        rotate_left
        · intro W hSw; obtain ⟨y0, y1, y2, y3, y4, y5, y6, y7, y8⟩ := KEEP.out W hSw; go_simp; try with_reducible rfl
        refine wpAnyH_take (i := 14) (v := ?_) rfl (by kernel_rfl) (by kernel_rfl) (by kernel_rfl) (fun _ _ _ h => h) (Or.inl ⟨by rfl, ?_⟩) hHeld ?_
        rotate_left
        · intro W hSw; obtain ⟨y0, y1, y2, y3, y4, y5, y6, y7, y8⟩ := KEEP.out W hSw; go_simp; try with_reducible rfl
        refine wpAnyH_ready (rs := [15]) (by kernel_rfl) (by simp) ?_
        refine AllReadyH.cons rfl (fun K hK => ?_) AllReadyH.nil
        go_simp
        go_at_call 37
        refine (longer_any _ _ _ _ (by omega) (by omega) (by omega) (by omega)).mono ?_
        rintro e w5 ⟨rfl, hb5⟩
        rw [HLON.out]
        have BW5 : Hid (Below wr2.heap.size wr2 w5) := below_then ((Below.refl _ wr2).drew) hb5
        obtain ⟨y0, y1, y2, y3, y4, y5, y6, y7, y8⟩ := KEEP.out w5 BW5.out
        refine hK.out _ _ BW5.out (fun hHeld1 => ?_)
        clear hK K hHeld hb5
        refine wpAnyH_take (i := 16) (v := ?_) rfl (by kernel_rfl) (by kernel_rfl) (by kernel_rfl) (fun _ _ _ h => h) (Or.inl ⟨by rfl, ?_⟩) hHeld1 ?_
        rotate_left
        · intro W hSw; obtain ⟨y0, y1, y2, y3, y4, y5, y6, y7, y8⟩ := KEEP.out W hSw; go_simp; try with_reducible rfl
        refine wpAnyH_done (by kernel_rfl) ?_ _
        refine behind_normal (wpOp_step rfl (fun K hK => ?_))
        go_simp
        refine hK _ _ ?_
        clear hK K
        go_wp2_with fail
        have fin := HIN.out.step HAP.out I9.out HE.out HA.out HH.out y0 (n := (k2 : Int)) (by rw [FIN.out.2])
        rw [FIN.out.1] at fin
        exact ⟨⟨i + 1, I9.out, by go_num, fin⟩, by have := I9.out; simp [intOf]; omega⟩
      · have x1 : (xh : Int) ≤ (i : Int) := by omega
        have hX : ¬ i < x.h := by rw [hxh]; exact hx
        have nxh := nx_high (x := x) (post := post) hX hA
        have hlon : lonV o (n : Int) (-1) = .agg #[.pointer (pt (nx i (A ++ post)).1), .int .i64 ((nx i (A ++ post)).2 : Int)] := by
          rw [← hoo, ← hnn]
          have fs : (nx i (A ++ post)).1 = (nx i (A ++ x :: post)).1 := by rw [nxh, lon_fst]
          rw [fs]
          refine lonV_is _ _ _ _ (fun h => ?_) (fun h => ?_)
          · rw [nxh] at h ⊢
            rw [lon_fst] at h
            rcases nx_cases i (A ++ post) with ⟨q1, -⟩ | ⟨A', y, C, -, -, -, q1⟩
            · rw [q1] at h; exact absurd rfl h
            · rw [q1]
              show (((A'.length + 1 + 1 : Nat)) : Int) + (-1) = ((A'.length + 1 : Nat) : Int)
              omega
          · rw [nxh, lon_fst] at h
            rcases nx_cases i (A ++ post) with ⟨q1, -⟩ | ⟨A', y, C, -, -, -, q1⟩
            · rw [q1]
            · rw [q1] at h; cases h
        obtain ⟨u2, hu2⟩ : ∃ u2, pt (nx i (A ++ post)).1 = u2 := ⟨_, rfl⟩
        obtain ⟨k2, hk2⟩ : ∃ k2 : Nat, (nx i (A ++ post)).2 = k2 := ⟨_, rfl⟩
        have FIN := Lib.hid (And.intro hu2 hk2)
        rw [hu2, hk2] at hlon
        have HLON := Lib.hid hlon
        have KEEP : Hid (∀ W, Below wr2.heap.size wr2 W → Below wr.heap.size wr W ∧ W.cell? ⟨xb, 2, none⟩ = some (.slice (some ⟨xL, 0, none⟩) xh xh) ∧ W.cell? ⟨ob, 0, none⟩ = some (.pointer (some ⟨B, i * 2, none⟩)) ∧ W.cell? ⟨ob, 1, none⟩ = some (.int .i64 (p : Int)) ∧ W.cell? ⟨B, i * 2, none⟩ = some (.pointer o) ∧ W.cell? ⟨B, i * 2 + 1, none⟩ = some (.int .i64 (n : Int)) ∧ (∀ j, W.frozen? ⟨B, j, none⟩ = false) ∧ True ∧ True) := fun W hW => by
          obtain ⟨k0, k1, k2, k3, k4, k5, k6, k7⟩ := keep W hW
          exact ⟨k0, k1, k2, k3, k4, k5, k6, trivial, trivial⟩
        clear hin e hA ho h0 h1 hnd hp lk hxh far hlt hoo hnn hBl freeB hb2 obl keep hx hlon hX nxh hu2 hk2
        go_wp2_with fail
        clear hwr2 hob r2 o0 o1 hidx
        refine wp_region_tail_list (S := fun W => Below wr2.heap.size wr2 W) (by simp) (by kernel_rfl) (by kernel_rfl) ((Below.refl _ wr2).drew) (fun hHeld => ?_)
        simp only [List.dropLast_cons_cons, List.dropLast_singleton, List.getLast_cons_cons, List.getLast_singleton, List.length_cons, List.length_nil, Nat.reduceAdd]
        refine wpAnyH_take (i := 0) (v := ?_) rfl (by kernel_rfl) (by kernel_rfl) (by kernel_rfl) (fun _ _ _ h => h) (Or.inl ⟨by rfl, ?_⟩) hHeld ?_
        rotate_left
        · intro W hSw; obtain ⟨y0, y1, y2, y3, y4, y5, y6, y7, y8⟩ := KEEP.out W hSw; go_simp; try with_reducible rfl
        refine wpAnyH_take (i := 1) (v := ?_) rfl (by kernel_rfl) (by kernel_rfl) (by kernel_rfl) (fun _ _ _ h => h) (Or.inl ⟨by rfl, ?_⟩) hHeld ?_
        rotate_left
        · intro W hSw; obtain ⟨y0, y1, y2, y3, y4, y5, y6, y7, y8⟩ := KEEP.out W hSw; go_simp; try with_reducible rfl
        refine wpAnyH_take (i := 2) (v := ?_) rfl (by kernel_rfl) (by kernel_rfl) (by kernel_rfl) (fun _ _ _ h => h) (Or.inl ⟨by rfl, ?_⟩) hHeld ?_
        rotate_left
        · intro W hSw; obtain ⟨y0, y1, y2, y3, y4, y5, y6, y7, y8⟩ := KEEP.out W hSw; go_simp; try with_reducible rfl
        refine wpAnyH_take (i := 3) (v := ?_) rfl (by kernel_rfl) (by kernel_rfl) (by kernel_rfl) (fun _ _ _ h => h) (Or.inl ⟨by rfl, ?_⟩) hHeld ?_
        rotate_left
        · intro W hSw; obtain ⟨y0, y1, y2, y3, y4, y5, y6, y7, y8⟩ := KEEP.out W hSw; go_simp; try with_reducible rfl
        refine wpAnyH_take (i := 4) (v := ?_) rfl (by kernel_rfl) (by kernel_rfl) (by kernel_rfl) (fun _ _ _ h => h) (Or.inl ⟨by rfl, ?_⟩) hHeld ?_
        rotate_left
        · intro W hSw; obtain ⟨y0, y1, y2, y3, y4, y5, y6, y7, y8⟩ := KEEP.out W hSw; go_simp; try with_reducible rfl
        refine wpAnyH_take (i := 5) (v := ?_) rfl (by kernel_rfl) (by kernel_rfl) (by kernel_rfl) (fun _ _ _ h => h) (Or.inl ⟨by rfl, ?_⟩) hHeld ?_
        rotate_left
        · intro W hSw; obtain ⟨y0, y1, y2, y3, y4, y5, y6, y7, y8⟩ := KEEP.out W hSw; go_simp; try with_reducible rfl
        refine wpAnyH_ready (rs := [6]) (by kernel_rfl) (by simp) ?_
        refine AllReadyH.cons rfl (fun K hK => ?_) AllReadyH.nil
        go_simp
        go_at_call 37
        refine (longer_any _ _ _ _ (by omega) (by omega) (by omega) (by omega)).mono ?_
        rintro e w5 ⟨rfl, hb5⟩
        rw [HLON.out]
        have BW5 : Hid (Below wr2.heap.size wr2 w5) := below_then ((Below.refl _ wr2).drew) hb5
        obtain ⟨y0, y1, y2, y3, y4, y5, y6, y7, y8⟩ := KEEP.out w5 BW5.out
        refine hK.out _ _ BW5.out (fun hHeld1 => ?_)
        clear hK K hHeld hb5
        refine wpAnyH_take (i := 7) (v := ?_) rfl (by kernel_rfl) (by kernel_rfl) (by kernel_rfl) (fun _ _ _ h => h) (Or.inl ⟨by rfl, ?_⟩) hHeld1 ?_
        rotate_left
        · intro W hSw; obtain ⟨y0, y1, y2, y3, y4, y5, y6, y7, y8⟩ := KEEP.out W hSw; go_simp; try with_reducible rfl
        refine wpAnyH_done (by kernel_rfl) ?_ _
        refine behind_normal (wpOp_step rfl (fun K hK => ?_))
        go_simp
        refine hK _ _ ?_
        clear hK K
        go_wp2_with fail
        have fin := HIN.out.step HAP.out I9.out HE.out HA.out HH.out y0 (n := (k2 : Int)) (by rw [FIN.out.2])
        rw [FIN.out.1] at fin
        exact ⟨⟨i + 1, I9.out, by go_num, fin⟩, by have := I9.out; simp [intOf]; omega⟩
    · obtain rfl : i = 20 := by omega
      clear hlt hi i0
      go_wp2_with fail
      go_ret
      have hnl : ∀ y ∈ pre ++ x :: post, ∀ j, ¬ Ln F (pre ++ x :: post) ⟨y.b, j, none⟩ := fun y hy j k => by
        rcases k with k | ⟨z, hz, k⟩
        · exact (HAP.out.F_ y hy).1 k.symm
        · exact HAP.out.bL y hy z hz k
      have sub : ∀ y ∈ pre ++ post, y ∈ pre ++ x :: post := fun y hy => (mid_sub pre post x).mem hy
      have old : ∀ y ∈ pre ++ x :: post, NdAt wr y := fun y hy => (BD4.out.nds y hy).turn HIN.out.turn (hnl y hy)
      have body : Body wr F (pre ++ post) := ⟨fun y hy => old y (sub y hy), fun l hl => HIN.out.mid.lo l hl, fun j => by rw [HIN.out.turn.frozen _ BD4.out.ltF]; exact BD4.out.freeF j, Nat.lt_of_lt_of_le BD4.out.ltF HIN.out.turn.size, fun y hy => BD1.out.high y (sub y hy)⟩
      have nm : ∀ a : Addr, a.block = m → ¬ Ln F (pre ++ x :: post) a := fun a ha k => by
        rcases k with k | ⟨z, hz, k⟩
        · exact HAP.out.Fm (k.symm.trans ha)
        · exact (HAP.out.m_ z hz).2 (ha.symm.trans k)
      have sc4 : Scores w4 (some m) (SkM.del l s.data.toList) := SC1.out.same fun b e => by
        injection e with e
        subst e
        exact B4.out.block _ SC1.out.lt
      have scr : Scores wr (some m) (SkM.del l s.data.toList) := sc4.same fun b e => by
        injection e with e
        subst e
        exact HIN.out.turn.block _ sc4.lt nm
      have on : Only (fun k => k = F ∨ k = m ∨ ∃ y ∈ pre ++ x :: post, k = y.L) W wr := by
        have o1 := ((Only.of_below (F := fun k => k = F ∨ k = m ∨ ∃ y ∈ pre ++ x :: post, k = y.L) AL0.out).grownS GW.out (.inl (.inr (.inl rfl))))
        have o2 := o1.trans (Only.of_below (F := fun _ => False) B4.out) fun _ f => f.elim
        refine o2.trans (HIN.out.turn.only (F := fun k => k = F ∨ k = m ∨ ∃ y ∈ pre ++ x :: post, k = y.L) fun a k => ?_) fun n hn => .inl hn
        rcases k with k | k
        · exact .inl k
        · exact .inr (.inr k)
      refine ⟨by first | rfl | (rw [XB.out]; rfl), body, old x XI, HIN.out.room, by rw [HSD.out] at scr; exact scr, on⟩
end Go.Proofs.YtopnbfhkfagemaaDoor
