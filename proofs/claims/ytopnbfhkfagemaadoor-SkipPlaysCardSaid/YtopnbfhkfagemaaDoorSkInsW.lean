/- Package skip: insert: a name put where it belongs. -/
import Derived.Test.YtopnbfhkfagemaaDoorSkPath
import Derived.Test.YtopnbfhkfagemaaDoorTail
import Derived.BigRegion
import Derived.BigQuiet
import Derived.Deep.RegionHeld3
import Derived.Deep.RegionWith
namespace Go.Proofs.YtopnbfhkfagemaaDoor
open Go.RowKit
set_option linter.unusedVariables false
theorem Body.grown {w w' : World} {F m q : Nat} {ns : List Nd} (h : Body w F ns) (ap : Apt q F m ns) (hg : w.grownBy w' (some m)) : Body w' F ns :=
  h.same (hg.block _ h.ltF fun e => by injection e with e; exact ap.Fm e) (fun x hx => ⟨hg.block _ (h.nds x hx).lt fun e => by injection e with e; exact (ap.m_ x hx).1 e.symm, hg.block _ (h.nds x hx).ltL fun e => by injection e with e; exact (ap.m_ x hx).2 e.symm⟩) hg.size
theorem NdAt.same {w w' : World} {x : Nd} (n : NdAt w x) (k1 : w'.heap[x.b]? = w.heap[x.b]?) (k2 : w'.heap[x.L]? = w.heap[x.L]?) (hs : w.heap.size ≤ w'.heap.size) : NdAt w' x :=
  ⟨(World.cell?_of_block k1).trans n.name, (World.cell?_of_block k1).trans n.score, (World.cell?_of_block k1).trans n.links, fun i => (World.frozen?_of_block k1).trans (n.free i), Nat.lt_of_lt_of_le n.lt hs, fun i => (World.frozen?_of_block k2).trans (n.freeL i), Nat.lt_of_lt_of_le n.ltL hs⟩
theorem Room.same {w w' : World} {x : Nd} {i : Nat} (n : Room w x i) (k2 : w'.heap[x.L]? = w.heap[x.L]?) : Room w' x i := fun l hl k => by
  obtain ⟨u, v, h1, h2⟩ := n l hl k
  exact ⟨u, v, (World.cell?_of_block k2).trans h1, (World.cell?_of_block k2).trans h2⟩
theorem Only.grownS {F : Nat → Prop} {a w w' : World} {b : Nat} (h : Only F a w) (hg : w.grownBy w' (some b)) (hb : F b ∨ a.heap.size ≤ b) : Only F a w' :=
  ⟨hg.os.trans h.os, hg.tape.trans h.tape, hg.output.trans h.output, Nat.le_trans h.size hg.size, fun k hk hf => by
    rw [hg.block k (Nat.lt_of_lt_of_le hk h.size) (fun e => by injection e with e; subst e; rcases hb with x | x; exact hf x; omega)]
    exact h.block k hk hf⟩
theorem below_rowI {B g : Nat} {w0 w : World} (hb : Below B w0 w) (hBg : B ≤ g) (cs : Array Value) : Below B w0 (w.setRow g cs) :=
  hb.trans ⟨rfl, rfl, rfl, by simp, fun k hk => setRow_other _ _ _ _ (by omega)⟩
theorem Turn.prow {D : Addr → Prop} {w w' : World} {g : Nat} {cs : Array Value} (t : Turn D w w') (h : PRow w g cs) (k : ∀ a : Addr, a.block = g → ¬ D a) : PRow w' g cs := (t.block g h.lt k).trans h
theorem ap_sub {q F m : Nat} {x : Nd} {pre post : List Nd} (h : Apt q F m (pre ++ x :: post)) : Apt q F m (pre ++ post) := (h.apart.sub (mid_sub pre post x)).apt
set_option maxRecDepth 20000 in
set_option maxHeartbeats 8000000 in
theorem insert_some (W : World) (q F m : Nat) (pre post : List Nd) (x : Nd) (l : List SkM.E) (hq0 : W.cell? ⟨q, 0, none⟩ = some (.pointer (some ⟨F, 0, none⟩))) (hq1 : W.cell? ⟨q, 1, none⟩ = some (.map (some m))) (hb : Body W F (pre ++ post)) (hsc : Scores W (some m) l) (hok : SkM.Ok l) (hlen : l.length ≤ 1000)
    (hnd : NdAt W x) (hro : Room W x 0) (hxh : 1 ≤ x.h ∧ x.h ≤ 20) (hxs : x.s.length ≤ maxLen) (hap : Apt q F m (pre ++ x :: post)) (h9 : (pre ++ post).length ≤ 1000) (ha : ∀ y ∈ pre, SkM.lt y.e x.e) (hbb : ∀ y ∈ post, ¬ SkM.lt y.e x.e) :
    Calls Tryd.prog 26 #[.pointer (some ⟨q, 0, none⟩), .pointer (some ⟨x.b, 0, none⟩)] W fun e w' => e = .returned (.tuple #[]) ∧ Body w' F (pre ++ x :: post) ∧ Scores w' (some m) (SkM.put l x.s x.v) ∧ Only (fun k => k = F ∨ k = m ∨ ∃ y ∈ pre ++ x :: post, k = y.L) W w' := by
  obtain ⟨s, hs⟩ : ∃ s : ByteArray, (⟨x.s.toArray⟩ : ByteArray) = s := ⟨_, rfl⟩
  obtain ⟨v, hv⟩ : ∃ v, x.v = v := ⟨_, rfl⟩
  obtain ⟨xb, hxb⟩ : ∃ b, x.b = b := ⟨_, rfl⟩
  obtain ⟨xL, hxL⟩ : ∃ b, x.L = b := ⟨_, rfl⟩
  have hsd : s.data.toList = x.s := by rw [← hs]
  have HSD := Lib.hid hsd
  have XS := Lib.hid hs
  have XV := Lib.hid hv
  have XB := Lib.hid hxb
  have XL := Lib.hid hxL
  have HB := Lib.hid hb
  have HS := Lib.hid hsc
  have HOK := Lib.hid hok
  have HLEN := Lib.hid hlen
  have HND := Lib.hid hnd
  have HRO := Lib.hid hro
  have HHI := Lib.hid hxh
  have HSZ : Hid (s.size ≤ maxLen) := by show s.size ≤ _; rw [← hs]; exact hxs
  have HAP := Lib.hid hap
  have H9 : Hid ((pre ++ post).length ≤ 100000) := Nat.le_trans h9 (by decide)
  have HPA : Hid (∀ y ∈ pre, SkM.lt y.e (s.data.toList, v)) := by show ∀ y ∈ pre, _; rw [hsd, ← hv]; exact ha
  have HPB : Hid (∀ y ∈ post, ¬ SkM.lt y.e (s.data.toList, v)) := by show ∀ y ∈ post, _; rw [hsd, ← hv]; exact hbb
  have n0 : W.cell? ⟨xb, 0, none⟩ = some (.string s) := by rw [← hxb, ← hs]; exact hnd.name
  have n1 : W.cell? ⟨xb, 1, none⟩ = some (.int .i64 v) := by rw [← hxb, ← hv]; exact hnd.score
  have n2 : True := trivial
  rw [hxb]
  have hal := zero40
  clear hb hsc hok hlen hnd hro hxh hxs hap h9 ha hbb hs hv hxb hxL hsd
  go_enter Tryd.func26, Tryd.ntmps26
  go_wp2_with fail
  obtain ⟨w1, hrun, hsc1, hg1⟩ := (HS.out.same (w' := W.drew) fun _ _ => rfl).store HOK.out s HSZ.out HLEN.out v
  have hgW : W.drew.grownBy w1 (some m) := hg1
  have hbody1 := (HB.out.below ((Below.refl _ W).drew)).grown (ap_sub HAP.out) hgW
  have hnd1 : NdAt w1 x := HND.out.same (hgW.block _ HND.out.lt fun e => by injection e with e; exact (HAP.out.m_ x (by simp)).1 e.symm) (hgW.block _ HND.out.ltL fun e => by injection e with e; exact (HAP.out.m_ x (by simp)).2 e.symm) hgW.size
  have hroom1 : Room w1 x 0 := HRO.out.same (hgW.block _ HND.out.ltL fun e => by injection e with e; exact (HAP.out.m_ x (by simp)).2 e.symm)
  have hq1' : w1.cell? ⟨q, 0, none⟩ = some (.pointer (some ⟨F, 0, none⟩)) := (World.cell?_of_block (hgW.block q (cell_in hq0) fun e => by injection e with e; exact HAP.out.qm e)).trans hq0
  have GW := Lib.hid hgW
  have SC1 := Lib.hid hsc1
  have BD1 := Lib.hid hbody1
  have ND1 := Lib.hid hnd1
  have RO1 := Lib.hid hroom1
  have Q1 := Lib.hid hq1'
  clear hg1 hgW hsc1 hbody1 hnd1 hroom1 hq1'
  go_region
  clear hrun hq0 hq1 n0 n1 n2
  have n0 : w1.cell? ⟨xb, 0, none⟩ = some (.string s) := by have := ND1.out.name; rw [XS.out, XB.out] at this; exact this
  have n1 : w1.cell? ⟨xb, 1, none⟩ = some (.int .i64 v) := by have := ND1.out.score; rw [XV.out, XB.out] at this; exact this
  go_wp2_with fail
  go_at_call 33
  refine (front_made _ _ _).mono ?_
  rintro e w2 ⟨rfl, hw2⟩
  have al2 : Below w1.heap.size w1 w2 := by rw [hw2]; exact (Below.refl _ w1).alloc (Nat.le_refl _) _
  have k0 : w2.cell? ⟨w1.heap.size, 0, none⟩ = some (.string s) := by rw [hw2, World.cell?_alloc_new]; rfl
  have k1 : w2.cell? ⟨w1.heap.size, 1, none⟩ = some (.int .i64 v) := by rw [hw2, World.cell?_alloc_new]; rfl
  have AL2 := Lib.hid al2
  have K0 := Lib.hid k0
  have K1 := Lib.hid k1
  clear hw2 al2 k0 k1
  go_wp2_with fail
  go_at_call 32
  refine (path_front w2 q F w1.heap.size pre post s v ((AL2.out.cell (p := ⟨q, 0, none⟩) (cell_in Q1.out)).trans Q1.out) (BD1.out.below AL2.out) H9.out K0.out K1.out HPA.out HPB.out).mono ?_
  rintro e w3 ⟨⟨cs, rfl, hpath⟩, hb3⟩
  have B3 : Hid (Below w1.heap.size w1 w3) := below_then AL2.out hb3
  have HP := Lib.hid hpath
  clear hb3 hpath AL2 K0 K1 n0 n1
  have HI : Hid ((Tryd.prog.info? 79).map (·.size) = some cs.size) := by show _ = _; rw [HP.out.size]; exact info40
  have HO : Hid (zeros.size = cs.size) := by show _ = _; rw [HP.out.size]; exact zeros_size
  have H1 : Hid (cs.all (·.oneCell') = true) := by
    show _ = _
    rw [Array.all_eq_true_iff_forall_mem]
    exact HP.out.one
  have HZ : Hid (PRow (w3.alloc (.cells zeros 79)) w3.heap.size zeros) := heap_alloc_new _ _
  have B4 : Hid (Below w1.heap.size w1 ((w3.alloc (.cells zeros 79)).setRow w3.heap.size cs)) := below_rowI (B3.out.alloc B3.out.size _) B3.out.size cs
  have PR4 : Hid (PRow ((w3.alloc (.cells zeros 79)).setRow w3.heap.size cs) w3.heap.size cs) := setRow_heap _ _ _ _ _ _ HZ.out
  go_wp2_with (first
    | (refine wpList_load_row rfl 79 (.tmp 4) rfl w3.heap.size rfl 79 _ (0, 0) _ PR4.out Tryd.underlying79 rfl HI.out ?_)
    | (refine wp_load_row 79 (.tmp 4) rfl w3.heap.size rfl 79 _ (0, 0) _ PR4.out Tryd.underlying79 rfl HI.out ?_)
    | (refine wpList_store_row rfl 79 (.tmp 4) (.tmp 41) rfl w3.heap.size cs rfl rfl 79 _ HZ.out HI.out HO.out H1.out ?_)
    | (refine wp_store_row 79 (.tmp 4) (.tmp 41) rfl w3.heap.size cs rfl rfl 79 _ HZ.out HI.out HO.out H1.out ?_))
  obtain ⟨w4, hw4⟩ : ∃ w4, (w3.alloc (.cells zeros 79)).setRow w3.heap.size cs = w4 := ⟨_, rfl⟩
  obtain ⟨g, hg⟩ : ∃ g, w3.heap.size = g := ⟨_, rfl⟩
  have G1 : Hid (w1.heap.size ≤ g) := by show _ ≤ _; rw [← hg]; exact B3.out.size
  rw [hw4] at B4 PR4 ⊢
  rw [hg] at PR4 ⊢
  clear hw4 hg HI HO H1 HZ hal B3
  have BD4 : Hid (Body w4 F (pre ++ post)) := BD1.out.below B4.out
  have ND4 : Hid (NdAt w4 x) := ND1.out.turn (Turn.of_below (D := fun _ => False) B4.out) fun _ e => e
  have RO4 : Hid (Room w4 x 0) := RO1.out.turn (Turn.of_below (D := fun _ => False) B4.out) fun _ _ => ⟨fun e => e, fun e => e⟩
  have GN : Hid (∀ a : Addr, a.block = g → ¬ Ln F (pre ++ x :: post) a) := fun a ha k => by
    have h1 := G1.out
    rcases k with k | ⟨y, hy, k⟩
    · have := BD1.out.ltF; omega
    · rcases List.mem_append.1 hy with hy | hy
      · have := (BD1.out.nds y (List.mem_append_left _ hy)).ltL; omega
      · rcases List.mem_cons.1 hy with rfl | hy
        · have := ND1.out.ltL; omega
        · have := (BD1.out.nds y (List.mem_append_right _ hy)).ltL; omega
  go_loopw [43] (fun j wr => ∃ i : Nat, i ≤ 20 ∧ j = .int .i64 (i : Int) ∧ LIn w4 F i x pre post wr) (fun j _ => 20 - (intOf j).toNat)
  case atStart => exact ⟨0, by decide, rfl, ⟨Turn.refl _ _, ⟨fun l h => absurd h (Nat.not_lt_zero _), fun l _ h => BD4.out.lev l h⟩, RO4.out⟩⟩
  case round =>
    obtain ⟨i, hi, rfl, hin⟩ := hrel
    have HIN := Lib.hid hin
    have i0 : (0 : Int) ≤ (i : Int) := by omega
    by_cases hlt : i < 20
    · obtain ⟨P, A, B, c, e, hA, ho, h0, h1⟩ := HP.out.at_ i (Nat.zero_le _) hlt
      have hidx := run_step hlt HP.out.size h0 h1
      have i1 : (i : Int) < 20 := by omega
      have I9 := Lib.hid hlt
      have HE := Lib.hid e
      have HA := Lib.hid hA
      have HH := Lib.hid ho
      have bc : i < c := ho.room hlt
      have pr : PRow wr g cs := hin.turn.prow PR4.out GN.out
      have hnd : NdAt wr x := ND4.out.turn hin.turn fun j k => by
        rcases k with k | ⟨y, hy, k⟩
        · exact (HAP.out.F_ x (by simp)).1 k.symm
        · exact HAP.out.bL x (by simp) y hy k
      have PR := Lib.hid pr
      have ND := Lib.hid hnd
      obtain ⟨p, hp⟩ : ∃ p, P.length = p := ⟨_, rfl⟩
      obtain ⟨N, hN⟩ : ∃ N, pre.length = N := ⟨_, rfl⟩
      have hl := congrArg List.length e
      rw [List.length_append, hp, hN] at hl
      have hN9 : N ≤ 100000 := by have := H9.out; rw [List.length_append, hN] at this; omega
      have p9 : (p : Int) ≤ (N : Int) := by omega
      have N9 : (N : Int) ≤ 100000 := by omega
      have p0 : (0 : Int) ≤ (p : Int) := by omega
      have HL := Lib.hid hl
      have HPL := Lib.hid hp
      rw [hp] at hidx
      have lk := hin.mid.hi i (Nat.le_refl _) hlt
      rw [e, List.append_assoc] at lk
      have lk := lk.at_ ho
      have LK := Lib.hid lk
      obtain ⟨xh, hxh⟩ : ∃ k, x.h = k := ⟨_, rfl⟩
      have XH := Lib.hid hxh
      obtain ⟨u1, c1, hc1⟩ : ∃ (u1 : Nat) (c1 : True), cs[1]? = some (.int .i64 (N : Int)) := by
        obtain ⟨_, _, _, _, h⟩ := HP.out.low fun y hy => (BD1.out.high y (List.mem_append_left _ hy)).1
        exact ⟨0, trivial, by rw [h, hN]⟩
      have far : ∀ o, Below wr.heap.size wr (wr.alloc o) := fun o => (Below.refl _ wr).alloc (Nat.le_refl _) o
      have s1 : ∀ o, (wr.alloc o).cell? ⟨g, 1, none⟩ = some (.int .i64 (N : Int)) := fun o => ((far o).cell (p := ⟨g, 1, none⟩) pr.lt).trans ((pr.cell _).trans hc1)
      have s2 : ∀ o, (wr.alloc o).cell? ⟨xb, 2, none⟩ = some (.slice (some ⟨xL, 0, none⟩) xh xh) := fun o => ((far o).cell (p := ⟨xb, 2, none⟩) (by have := hnd.lt; rw [XB.out] at this; exact this)).trans (by have := hnd.links; rw [XB.out, XL.out, hxh] at this; exact this)
      obtain ⟨o, hoo⟩ : ∃ o, pt (nx i (A ++ post)).1 = o := ⟨_, rfl⟩
      obtain ⟨n, hnn⟩ : ∃ n : Nat, (nx i (A ++ post)).2 = n := ⟨_, rfl⟩
      have n9 : (n : Int) ≤ 100000 := by
        have h1 := nx_le i (A ++ post)
        have h2 := H9.out
        rw [e] at h2
        rw [hnn] at h1
        simp only [List.length_append] at h1 h2
        omega
      have n0 : (0 : Int) ≤ (n : Int) := by omega
      have hBl : B < wr.heap.size := cell_in lk.to
      obtain ⟨ob, hob⟩ : ∃ ob, wr.heap.size = ob := ⟨_, rfl⟩
      have neB : ¬ xL = B := by have := HAP.out.far e ho x List.mem_cons_self; rw [XL.out] at this; exact this
      have neO : ¬ xL = ob := by have := hnd.ltL; rw [XL.out] at this; omega
      have neC : ¬ B = ob := by omega
      have OO := Lib.hid (And.intro hoo hnn)
      have freeB : ∀ j, wr.frozen? ⟨B, j, none⟩ = false := fun j => by
        rw [hin.turn.frozen _ (by
          rcases ho with ⟨-, h, -⟩ | ⟨P', y, ey, h, -, -⟩
          · rw [h]; exact BD4.out.ltF
          · rw [h]; exact (BD4.out.nds y (by rw [e, ey]; simp)).ltL)]
        rcases ho with ⟨-, h, -⟩ | ⟨P', y, ey, h, -, -⟩
        · rw [h]; exact BD4.out.freeF j
        · rw [h]; exact (BD4.out.nds y (by rw [e, ey]; simp)).freeL j
      obtain ⟨wr2, hwr2⟩ : ∃ wr2, wr.alloc (.cells #[.pointer (some ⟨B, i * 2, none⟩), .int .i64 (p : Int)] 77) = wr2 := ⟨_, rfl⟩
      have hb2 : Below wr.heap.size wr wr2 := by rw [← hwr2]; exact far _
      have HB2 := Lib.hid hb2
      have o0 : wr2.cell? ⟨ob, 0, none⟩ = some (.pointer (some ⟨B, i * 2, none⟩)) := by rw [← hwr2, ← hob, World.cell?_alloc_new]; rfl
      have o1 : wr2.cell? ⟨ob, 1, none⟩ = some (.int .i64 (p : Int)) := by rw [← hwr2, ← hob, World.cell?_alloc_new]; rfl
      have obl : ob < wr2.heap.size := cell_in o0
      have r1 : wr2.cell? ⟨g, 1, none⟩ = some (.int .i64 (N : Int)) := by rw [← hwr2]; exact s1 _
      have r2 : wr2.cell? ⟨xb, 2, none⟩ = some (.slice (some ⟨xL, 0, none⟩) xh xh) := by rw [← hwr2]; exact s2 _
      have keep : ∀ W, Below wr2.heap.size wr2 W → Below wr.heap.size wr W ∧ W.cell? ⟨xb, 2, none⟩ = some (.slice (some ⟨xL, 0, none⟩) xh xh) ∧ W.cell? ⟨ob, 0, none⟩ = some (.pointer (some ⟨B, i * 2, none⟩)) ∧ W.cell? ⟨ob, 1, none⟩ = some (.int .i64 (p : Int)) ∧ W.cell? ⟨B, i * 2, none⟩ = some (.pointer o) ∧ W.cell? ⟨B, i * 2 + 1, none⟩ = some (.int .i64 (n : Int)) ∧ (∀ j, W.frozen? ⟨xL, j, none⟩ = false) ∧ (∀ j, W.frozen? ⟨B, j, none⟩ = false) ∧ (i < xh → ∃ u v, W.cell? ⟨xL, i * 2, none⟩ = some u ∧ W.cell? ⟨xL, i * 2 + 1, none⟩ = some v) := fun W hW => by
        have t := below_then hb2 hW
        have lkW := lk.turn (Turn.of_below (D := fun _ => False) t) (fun e => e) (fun e => e)
        have ndW := hnd.turn (Turn.of_below (D := fun _ => False) t) fun _ e => e
        refine ⟨t, ?_, (hW.cell (p := ⟨ob, 0, none⟩) obl).trans o0, (hW.cell (p := ⟨ob, 1, none⟩) obl).trans o1, ?_, ?_, fun j => ?_, fun j => (World.frozen?_of_block (t.block _ hBl)).trans (freeB j), fun k => ?_⟩
        · have := ndW.links; rw [XB.out, XL.out, hxh] at this; exact this
        · rw [← hoo]; exact lkW.to
        · rw [← hnn]; exact lkW.width
        · have := ndW.freeL j; rw [XL.out] at this; exact this
        · have := (hin.room.turn (Turn.of_below (D := fun _ => False) t) fun _ _ => ⟨fun e => e, fun e => e⟩) i (Nat.le_refl _) (by rw [hxh]; exact k)
          rw [XL.out] at this
          exact this
      have KEEP0 := Lib.hid keep
      by_cases hx : i < xh
      · have x1 : (i : Int) < (xh : Int) := by omega
        have HX : Hid (i < x.h) := by show _ < _; rw [hxh]; exact hx
        have hlon : lonV o (n : Int) (1 - ((N : Int) - (p : Int) + 1)) = .agg #[.pointer o, .int .i64 ((nx i post).2 : Int)] := by
          rw [← hoo, ← hnn]
          have sk := nx_skip i A post hA
          have fs : (nx i (A ++ post)).1 = (nx i post).1 := by rw [sk, lon_fst]
          refine lonV_is _ _ _ _ (fun h => ?_) (fun h => ?_)
          · rw [fs] at h
            rw [sk]
            rcases nx_cases i post with ⟨q1, -⟩ | ⟨A', y, C, -, -, -, q1⟩
            · rw [q1] at h; exact absurd rfl h
            · rw [q1]
              show (((A'.length + 1 + A.length : Nat)) : Int) + (1 - ((N : Int) - (p : Int) + 1)) = ((A'.length + 1 : Nat) : Int)
              omega
          · rw [fs] at h
            rcases nx_cases i post with ⟨q1, -⟩ | ⟨A', y, C, -, -, -, q1⟩
            · rw [q1]
            · rw [q1] at h; cases h
        have hw : IntKind.i64.wrap (1 - ((N : Int) - (p : Int) + 1)) = 1 - ((N : Int) - (p : Int) + 1) := by simp [IntKind.wrap, IntKind.bits, IntKind.signed]; omega
        have HLON := Lib.hid hlon
        have HO2 : Hid (pt (nx i post).1 = o) := by show _ = _; rw [← hoo, nx_skip i A post hA, lon_fst]
        have KEEP : Hid (∀ W, Below wr2.heap.size wr2 W → ∃ u v : Value, Below wr.heap.size wr W ∧ W.cell? ⟨xb, 2, none⟩ = some (.slice (some ⟨xL, 0, none⟩) xh xh) ∧ W.cell? ⟨ob, 0, none⟩ = some (.pointer (some ⟨B, i * 2, none⟩)) ∧ W.cell? ⟨ob, 1, none⟩ = some (.int .i64 (p : Int)) ∧ W.cell? ⟨B, i * 2, none⟩ = some (.pointer o) ∧ W.cell? ⟨B, i * 2 + 1, none⟩ = some (.int .i64 (n : Int)) ∧ (∀ j, W.frozen? ⟨xL, j, none⟩ = false) ∧ (∀ j, W.frozen? ⟨B, j, none⟩ = false) ∧ W.cell? ⟨xL, i * 2, none⟩ = some u ∧ W.cell? ⟨xL, i * 2 + 1, none⟩ = some v) := fun W hW => by
          obtain ⟨k0, k1, k2, k3, k4, k5, k6, k7, k8⟩ := keep W hW
          obtain ⟨u, v, h1, h2⟩ := k8 hx
          exact ⟨u, v, k0, k1, k2, k3, k4, k5, k6, k7, h1, h2⟩
        clear hin e hA ho h0 h1 bc pr hnd hp hN hl lk hxh c1 hc1 far hlt hoo hnn hBl freeB hb2 obl keep hx hlon hN9 s1 s2
        go_wp2_with fail
        clear hwr2 hob r1 r2 o0 o1 hidx
        refine wp_region_tail_list (S := fun W => Below wr2.heap.size wr2 W) (by simp) (by kernel_rfl) (by kernel_rfl) ((Below.refl _ wr2).drew) (fun hHeld => ?_)
        simp only [List.dropLast_cons_cons, List.dropLast_singleton, List.getLast_cons_cons, List.getLast_singleton, List.length_cons, List.length_nil, Nat.reduceAdd]
        refine wpAnyH_take (i := 0) (v := ?_) rfl (by kernel_rfl) (by kernel_rfl) (by kernel_rfl) (fun _ _ _ h => h) (Or.inl ⟨by rfl, ?_⟩) hHeld ?_
        rotate_left
        · intro W hSw; obtain ⟨u, v, y0, y1, y2, y3, y4, y5, y6, y7, y8, y9⟩ := KEEP.out W hSw; go_simp; try with_reducible rfl
        refine wpAnyH_take (i := 1) (v := ?_) rfl (by kernel_rfl) (by kernel_rfl) (by kernel_rfl) (fun _ _ _ h => h) (Or.inl ⟨by rfl, ?_⟩) hHeld ?_
        rotate_left
        · intro W hSw; obtain ⟨u, v, y0, y1, y2, y3, y4, y5, y6, y7, y8, y9⟩ := KEEP.out W hSw; go_simp; try with_reducible rfl
        refine wpAnyH_take (i := 2) (v := ?_) rfl (by kernel_rfl) (by kernel_rfl) (by kernel_rfl) (fun _ _ _ h => h) (Or.inl ⟨by rfl, ?_⟩) hHeld ?_
        rotate_left
        · intro W hSw; obtain ⟨u, v, y0, y1, y2, y3, y4, y5, y6, y7, y8, y9⟩ := KEEP.out W hSw; go_simp; try with_reducible rfl
        refine wpAnyH_take (i := 3) (v := ?_) rfl (by kernel_rfl) (by kernel_rfl) (by kernel_rfl) (fun _ _ _ h => h) (Or.inl ⟨by rfl, ?_⟩) hHeld ?_
        rotate_left
        · intro W hSw; obtain ⟨u, v, y0, y1, y2, y3, y4, y5, y6, y7, y8, y9⟩ := KEEP.out W hSw; go_simp; try with_reducible rfl
        refine wpAnyH_take (i := 4) (v := ?_) rfl (by kernel_rfl) (by kernel_rfl) (by kernel_rfl) (fun _ _ _ h => h) (Or.inl ⟨by rfl, ?_⟩) hHeld ?_
        rotate_left
        · intro W hSw; obtain ⟨u, v, y0, y1, y2, y3, y4, y5, y6, y7, y8, y9⟩ := KEEP.out W hSw; go_simp; try with_reducible rfl
        refine wpAnyH_take (i := 5) (v := ?_) rfl (by kernel_rfl) (by kernel_rfl) (by kernel_rfl) (fun _ _ _ h => h) (Or.inl ⟨by rfl, ?_⟩) hHeld ?_
        rotate_left
        · intro W hSw; obtain ⟨u, v, y0, y1, y2, y3, y4, y5, y6, y7, y8, y9⟩ := KEEP.out W hSw; go_simp; try with_reducible rfl
        refine wpAnyH_take (i := 6) (v := ?_) rfl (by kernel_rfl) (by kernel_rfl) (by kernel_rfl) (fun _ _ _ h => h) (Or.inl ⟨by rfl, ?_⟩) hHeld ?_
        rotate_left
        · intro W hSw; obtain ⟨u, v, y0, y1, y2, y3, y4, y5, y6, y7, y8, y9⟩ := KEEP.out W hSw; go_simp; try with_reducible rfl
        refine wpAnyH_take (i := 7) (v := ?_) rfl (by kernel_rfl) (by kernel_rfl) (by kernel_rfl) (fun _ _ _ h => h) (Or.inl ⟨by rfl, ?_⟩) hHeld ?_
        rotate_left
        · intro W hSw; obtain ⟨u, v, y0, y1, y2, y3, y4, y5, y6, y7, y8, y9⟩ := KEEP.out W hSw; go_simp; try with_reducible rfl
        refine wpAnyH_take (i := 8) (v := ?_) rfl (by kernel_rfl) (by kernel_rfl) (by kernel_rfl) (fun _ _ _ h => h) (Or.inl ⟨by rfl, ?_⟩) hHeld ?_
        rotate_left
        · intro W hSw; obtain ⟨u, v, y0, y1, y2, y3, y4, y5, y6, y7, y8, y9⟩ := KEEP.out W hSw; go_simp; try with_reducible rfl
        refine wpAnyH_take (i := 9) (v := ?_) rfl (by kernel_rfl) (by kernel_rfl) (by kernel_rfl) (fun _ _ _ h => h) (Or.inl ⟨by rfl, ?_⟩) hHeld ?_
        rotate_left
        · intro W hSw; obtain ⟨u, v, y0, y1, y2, y3, y4, y5, y6, y7, y8, y9⟩ := KEEP.out W hSw; go_simp; try with_reducible rfl
        refine wpAnyH_take (i := 10) (v := ?_) rfl (by kernel_rfl) (by kernel_rfl) (by kernel_rfl) (fun _ _ _ h => h) (Or.inl ⟨by rfl, ?_⟩) hHeld ?_
        rotate_left
        · intro W hSw; obtain ⟨u, v, y0, y1, y2, y3, y4, y5, y6, y7, y8, y9⟩ := KEEP.out W hSw; go_simp; try with_reducible rfl
        refine wpAnyH_ready (rs := [11]) (by kernel_rfl) (by simp) ?_
        refine AllReadyH.cons rfl (fun K hK => ?_) AllReadyH.nil
        go_simp
        go_at_call 37
        refine (longer_any _ _ _ _ (by omega) (by omega) (by omega) (by omega)).mono ?_
        rintro e w5 ⟨rfl, hb5⟩
        rw [HLON.out]
        have BW5 : Hid (Below wr2.heap.size wr2 w5) := below_then ((Below.refl _ wr2).drew) hb5
        obtain ⟨u, v, y0, y1, y2, y3, y4, y5, y6, y7, y8, y9⟩ := KEEP.out w5 BW5.out
        refine hK.out _ _ BW5.out (fun hHeld1 => ?_)
        clear hK K hHeld hb5
        refine wpAnyH_take (i := 12) (v := ?_) rfl (by kernel_rfl) (by kernel_rfl) (by kernel_rfl) (fun _ _ _ h => h) (Or.inl ⟨by rfl, ?_⟩) hHeld1 ?_
        rotate_left
        · intro W hSw; obtain ⟨u, v, y0, y1, y2, y3, y4, y5, y6, y7, y8, y9⟩ := KEEP.out W hSw; go_simp; try with_reducible rfl
        refine wpAnyH_done (by kernel_rfl) ?_ _
        refine behind_normal (wpOp_step rfl (fun K hK => ?_))
        go_simp
        refine hK _ _ ?_
        clear hK K
        go_wp2_with fail
        have fin := HIN.out.low HAP.out I9.out HX.out HE.out HA.out HH.out y0 (n := ((nx i post).2 : Int)) (k := (N : Int) - (p : Int) + 1) rfl (by have := HL.out; omega)
        rw [XL.out, XB.out, HO2.out] at fin
        exact ⟨⟨i + 1, I9.out, by go_num, fin⟩, by have := I9.out; simp [intOf]; omega⟩
      · have x1 : (xh : Int) ≤ (i : Int) := by omega
        have HX : Hid (¬ i < x.h) := by show ¬ _ < _; rw [hxh]; exact hx
        have nxh := nx_high (x := x) (post := post) HX.out hA
        have hlon : lonV o (n : Int) 1 = .agg #[.pointer o, .int .i64 ((nx i (A ++ x :: post)).2 : Int)] := by
          rw [← hoo, ← hnn]
          refine lonV_is _ _ _ _ (fun h => ?_) (fun h => ?_)
          · rw [nxh]
            rcases nx_cases i (A ++ post) with ⟨q1, -⟩ | ⟨A', y, C, -, -, -, q1⟩
            · rw [q1] at h; exact absurd rfl h
            · rw [q1]; rfl
          · rw [nxh]
            rcases nx_cases i (A ++ post) with ⟨q1, -⟩ | ⟨A', y, C, -, -, -, q1⟩
            · rw [q1]; rfl
            · rw [q1] at h; cases h
        have HLON := Lib.hid hlon
        have KEEP : Hid (∀ W, Below wr2.heap.size wr2 W → ∃ u v : Value, Below wr.heap.size wr W ∧ W.cell? ⟨xb, 2, none⟩ = some (.slice (some ⟨xL, 0, none⟩) xh xh) ∧ W.cell? ⟨ob, 0, none⟩ = some (.pointer (some ⟨B, i * 2, none⟩)) ∧ W.cell? ⟨ob, 1, none⟩ = some (.int .i64 (p : Int)) ∧ W.cell? ⟨B, i * 2, none⟩ = some (.pointer o) ∧ W.cell? ⟨B, i * 2 + 1, none⟩ = some (.int .i64 (n : Int)) ∧ (∀ j, W.frozen? ⟨xL, j, none⟩ = false) ∧ (∀ j, W.frozen? ⟨B, j, none⟩ = false) ∧ True ∧ True) := fun W hW => by
          obtain ⟨k0, k1, k2, k3, k4, k5, k6, k7, k8⟩ := keep W hW
          exact ⟨.int .i64 0, .int .i64 0, k0, k1, k2, k3, k4, k5, k6, k7, trivial, trivial⟩
        clear hin e hA ho h0 h1 bc pr hnd hp hN hl lk hxh c1 hc1 far hlt hoo hnn hBl freeB hb2 obl keep hx hlon hN9 s1 s2 nxh
        go_wp2_with fail
        clear hwr2 hob r1 r2 o0 o1 hidx
        refine wp_region_tail_list (S := fun W => Below wr2.heap.size wr2 W) (by simp) (by kernel_rfl) (by kernel_rfl) ((Below.refl _ wr2).drew) (fun hHeld => ?_)
        simp only [List.dropLast_cons_cons, List.dropLast_singleton, List.getLast_cons_cons, List.getLast_singleton, List.length_cons, List.length_nil, Nat.reduceAdd]
        refine wpAnyH_take (i := 0) (v := ?_) rfl (by kernel_rfl) (by kernel_rfl) (by kernel_rfl) (fun _ _ _ h => h) (Or.inl ⟨by rfl, ?_⟩) hHeld ?_
        rotate_left
        · intro W hSw; obtain ⟨u, v, y0, y1, y2, y3, y4, y5, y6, y7, y8, y9⟩ := KEEP.out W hSw; go_simp; try with_reducible rfl
        refine wpAnyH_take (i := 1) (v := ?_) rfl (by kernel_rfl) (by kernel_rfl) (by kernel_rfl) (fun _ _ _ h => h) (Or.inl ⟨by rfl, ?_⟩) hHeld ?_
        rotate_left
        · intro W hSw; obtain ⟨u, v, y0, y1, y2, y3, y4, y5, y6, y7, y8, y9⟩ := KEEP.out W hSw; go_simp; try with_reducible rfl
        refine wpAnyH_take (i := 2) (v := ?_) rfl (by kernel_rfl) (by kernel_rfl) (by kernel_rfl) (fun _ _ _ h => h) (Or.inl ⟨by rfl, ?_⟩) hHeld ?_
        rotate_left
        · intro W hSw; obtain ⟨u, v, y0, y1, y2, y3, y4, y5, y6, y7, y8, y9⟩ := KEEP.out W hSw; go_simp; try with_reducible rfl
        refine wpAnyH_take (i := 3) (v := ?_) rfl (by kernel_rfl) (by kernel_rfl) (by kernel_rfl) (fun _ _ _ h => h) (Or.inl ⟨by rfl, ?_⟩) hHeld ?_
        rotate_left
        · intro W hSw; obtain ⟨u, v, y0, y1, y2, y3, y4, y5, y6, y7, y8, y9⟩ := KEEP.out W hSw; go_simp; try with_reducible rfl
        refine wpAnyH_take (i := 4) (v := ?_) rfl (by kernel_rfl) (by kernel_rfl) (by kernel_rfl) (fun _ _ _ h => h) (Or.inl ⟨by rfl, ?_⟩) hHeld ?_
        rotate_left
        · intro W hSw; obtain ⟨u, v, y0, y1, y2, y3, y4, y5, y6, y7, y8, y9⟩ := KEEP.out W hSw; go_simp; try with_reducible rfl
        refine wpAnyH_take (i := 5) (v := ?_) rfl (by kernel_rfl) (by kernel_rfl) (by kernel_rfl) (fun _ _ _ h => h) (Or.inl ⟨by rfl, ?_⟩) hHeld ?_
        rotate_left
        · intro W hSw; obtain ⟨u, v, y0, y1, y2, y3, y4, y5, y6, y7, y8, y9⟩ := KEEP.out W hSw; go_simp; try with_reducible rfl
        refine wpAnyH_ready (rs := [6]) (by kernel_rfl) (by simp) ?_
        refine AllReadyH.cons rfl (fun K hK => ?_) AllReadyH.nil
        go_simp
        go_at_call 37
        refine (longer_any _ _ _ _ (by omega) (by omega) (by omega) (by omega)).mono ?_
        rintro e w5 ⟨rfl, hb5⟩
        rw [HLON.out]
        have BW5 : Hid (Below wr2.heap.size wr2 w5) := below_then ((Below.refl _ wr2).drew) hb5
        obtain ⟨u, v, y0, y1, y2, y3, y4, y5, y6, y7, y8, y9⟩ := KEEP.out w5 BW5.out
        refine hK.out _ _ BW5.out (fun hHeld1 => ?_)
        clear hK K hHeld hb5
        refine wpAnyH_take (i := 7) (v := ?_) rfl (by kernel_rfl) (by kernel_rfl) (by kernel_rfl) (fun _ _ _ h => h) (Or.inl ⟨by rfl, ?_⟩) hHeld1 ?_
        rotate_left
        · intro W hSw; obtain ⟨u, v, y0, y1, y2, y3, y4, y5, y6, y7, y8, y9⟩ := KEEP.out W hSw; go_simp; try with_reducible rfl
        refine wpAnyH_done (by kernel_rfl) ?_ _
        refine behind_normal (wpOp_step rfl (fun K hK => ?_))
        go_simp
        refine hK _ _ ?_
        clear hK K
        go_wp2_with fail
        have fin := HIN.out.high HAP.out I9.out HX.out HE.out HA.out HH.out y0 (n := ((nx i (A ++ x :: post)).2 : Int)) rfl
        rw [OO.out.1] at fin
        exact ⟨⟨i + 1, I9.out, by go_num, fin⟩, by have := I9.out; simp [intOf]; omega⟩
    · obtain rfl : i = 20 := by omega
      clear hlt hi i0
      go_wp2_with fail
      go_end0
      have hnl : ∀ y ∈ pre ++ x :: post, ∀ j, ¬ Ln F (pre ++ x :: post) ⟨y.b, j, none⟩ := fun y hy j k => by
        rcases k with k | ⟨z, hz, k⟩
        · exact (HAP.out.F_ y hy).1 k.symm
        · exact HAP.out.bL y hy z hz k
      have old : ∀ y ∈ pre ++ x :: post, NdAt w4 y := fun y hy => by
        rcases List.mem_append.1 hy with h | h
        · exact BD4.out.nds y (List.mem_append_left _ h)
        · rcases List.mem_cons.1 h with rfl | h
          · exact ND4.out
          · exact BD4.out.nds y (List.mem_append_right _ h)
      have body : Body wr F (pre ++ x :: post) := ⟨fun y hy => (old y hy).turn HIN.out.turn (hnl y hy), fun l hl => HIN.out.mid.lo l hl, fun j => by rw [HIN.out.turn.frozen _ BD4.out.ltF]; exact BD4.out.freeF j, Nat.lt_of_lt_of_le BD4.out.ltF HIN.out.turn.size, fun y hy => by
        rcases List.mem_append.1 hy with h | h
        · exact BD1.out.high y (List.mem_append_left _ h)
        · rcases List.mem_cons.1 h with rfl | h
          · exact HHI.out
          · exact BD1.out.high y (List.mem_append_right _ h)⟩
      have nm : ∀ a : Addr, a.block = m → ¬ Ln F (pre ++ x :: post) a := fun a ha k => by
        rcases k with k | ⟨z, hz, k⟩
        · exact HAP.out.Fm (k.symm.trans ha)
        · exact (HAP.out.m_ z hz).2 (ha.symm.trans k)
      have sc4 : Scores w4 (some m) (SkM.put l s.data.toList v) := SC1.out.same fun b e => by
        injection e with e
        subst e
        exact B4.out.block _ SC1.out.lt
      have scr : Scores wr (some m) (SkM.put l s.data.toList v) := sc4.same fun b e => by
        injection e with e
        subst e
        exact HIN.out.turn.block _ sc4.lt nm
      have on : Only (fun k => k = F ∨ k = m ∨ ∃ y ∈ pre ++ x :: post, k = y.L) W wr := by
        have o1 := (((Only.refl (fun k => k = F ∨ k = m ∨ ∃ y ∈ pre ++ x :: post, k = y.L) W).drew).grownS GW.out (.inl (.inr (.inl rfl))))
        have o2 := o1.trans (Only.of_below (F := fun _ => False) B4.out) fun _ f => f.elim
        refine o2.trans (HIN.out.turn.only (F := fun k => k = F ∨ k = m ∨ ∃ y ∈ pre ++ x :: post, k = y.L) fun a k => ?_) fun n hn => .inl hn
        rcases k with k | k
        · exact .inl k
        · exact .inr (.inr k)
      exact ⟨rfl, body, by rw [← XV.out, HSD.out] at scr; exact scr, on⟩
end Go.Proofs.YtopnbfhkfagemaaDoor
