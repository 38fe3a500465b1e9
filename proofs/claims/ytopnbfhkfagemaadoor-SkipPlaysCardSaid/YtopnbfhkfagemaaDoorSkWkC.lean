/- Package skip: the path to a position, told by a function (Below). -/
import Derived.Test.YtopnbfhkfagemaaDoorSkBody
namespace Go.Proofs.YtopnbfhkfagemaaDoor
open Go.RowKit
set_option linter.unusedVariables false
theorem below_setRowC {B g : Nat} {w0 w : World} (hb : Below B w0 w) (hBg : B ≤ g) (cs : Array Value) : Below B w0 (w.setRow g cs) :=
  hb.trans ⟨rfl, rfl, rfl, by simp, fun k hk => setRow_other _ _ _ _ (by omega)⟩
set_option maxRecDepth 20000 in
set_option maxHeartbeats 4000000 in
theorem walk_below (w : World) (q F : Nat) (pre post : List Nd) (hq : w.cell? ⟨q, 0, none⟩ = some (.pointer (some ⟨F, 0, none⟩))) (h : Body w F (pre ++ post)) (h9 : (pre ++ post).length ≤ 100000) (cap : Addr)
    (hA : ∀ W, Below w.heap.size w W → ∀ j (hj : j < (pre ++ post).length), Calls Tryd.prog 36 #[.pointer (some ⟨((pre ++ post)[j]).b, 0, none⟩), .int .i64 (j : Int), .pointer (some cap)] W fun e w' => e = .returned (.bool (decide (j < pre.length))) ∧ Below W.heap.size W w') :
    Calls Tryd.prog 32 #[.pointer (some ⟨q, 0, none⟩), .func (.func 36) #[] #[.pointer (some cap)]] w fun e w' => (∃ cs, e = .returned (.agg cs) ∧ Path F pre 0 cs) ∧ Below w.heap.size w w' := by
  have HB := Lib.hid h
  have HA := Lib.hid hA
  have H9 := Lib.hid h9
  have hal := zero40
  have z1 : PRow ((w.alloc (.cells zeros 79)).alloc (.cells zeros 79)) w.heap.size zeros := heap_alloc2_old _ _ _
  have z2 : PRow ((w.alloc (.cells zeros 79)).alloc (.cells zeros 79)) (w.heap.size + 1) zeros := heap_alloc2_new _ _ _
  have zb : Below w.heap.size w ((w.alloc (.cells zeros 79)).alloc (.cells zeros 79)) := ((Below.refl _ w).alloc (Nat.le_refl _) _).alloc (by simp) _
  replace hq : ((w.alloc (.cells zeros 79)).alloc (.cells zeros 79)).cell? ⟨q, 0, none⟩ = some (.pointer (some ⟨F, 0, none⟩)) := (zb.cell (p := ⟨q, 0, none⟩) (cell_in hq)).trans hq
  have Z1 := Lib.hid z1
  have Z2 := Lib.hid z2
  have ZB := Lib.hid zb
  clear h hA h9 z1 z2 zb
  go_enter Tryd.func32, Tryd.ntmps32
  go_wp2_with fail
  go_loopw [6, 7, 8] (fun v6 v7 v8 wr => ∃ (k : Nat) (lv : Int) (P A : List Nd) (B c : Nat) (cs : Array Value), k ≤ 20 ∧ lv = (k : Int) - 1 ∧ v8 = .int .i64 lv ∧ v6 = .slice (some ⟨B, 0, none⟩) c c ∧ v7 = .int .i64 (P.length : Int) ∧ pre = P ++ A ∧ Hind F (k - 1) P B c ∧ PRow wr (w.heap.size + 1) cs ∧ PRow wr w.heap.size zeros ∧ Path F pre k cs ∧ Below w.heap.size w wr) (fun _ _ v8 _ => (intOf v8 + 1).toNat)
  case atStart => exact ⟨20, 19, [], pre, F, 20, zeros, Nat.le_refl _, rfl, rfl, rfl, rfl, rfl, .inl ⟨rfl, rfl, rfl⟩, Z2.out, Z1.out, ⟨zeros_size, zeros_one, fun l h1 h2 => absurd h1 (by omega)⟩, ZB.out⟩
  case round =>
    obtain ⟨k, lv, P, A, B, c, cs, hk, hlv, rfl, rfl, rfl, hpre, hbh, hr1, hr0, hpath, hbw⟩ := hrel
    have HR1 := Lib.hid hr1
    have HR0 := Lib.hid hr0
    have HP := Lib.hid hpath
    have BW := Lib.hid hbw
    cases k with
    | zero =>
      have : lv = -1 := by omega
      subst this
      clear hr1 hr0 hpath hbw hpre hbh hlv hk
      have HI : Hid ((Tryd.prog.info? 79).map (·.size) = some cs.size) := by show _ = _; rw [HP.out.size]; exact info40
      have HO : Hid (zeros.size = cs.size) := by show _ = _; rw [HP.out.size]; exact zeros_size
      have H1 : Hid (cs.all (·.oneCell') = true) := by
        show _ = _
        rw [Array.all_eq_true_iff_forall_mem]
        exact HP.out.one
      go_wp2_with (first
        | (refine wpList_load_row rfl 79 (.tmp 5) rfl (w.heap.size + 1) rfl 79 _ (0, 0) _ HR1.out Tryd.underlying79 rfl HI.out ?_)
        | (refine wp_load_row 79 (.tmp 5) rfl (w.heap.size + 1) rfl 79 _ (0, 0) _ HR1.out Tryd.underlying79 rfl HI.out ?_)
        | (refine wpList_store_row rfl 79 (.tmp 4) (.tmp 55) rfl w.heap.size cs rfl rfl 79 _ HR0.out HI.out HO.out H1.out ?_)
        | (refine wp_store_row 79 (.tmp 4) (.tmp 55) rfl w.heap.size cs rfl rfl 79 _ HR0.out HI.out HO.out H1.out ?_))
      try simp only [Exit.inBlock, Exit.then]
      refine bodyPost_ret (results_cell_row (P := Tryd.prog) (fn := Tryd.f32) (p := 4) (ty := 79) rfl _ _ w.heap.size 79 _ (0, 0) _ rfl (setRow_heap _ _ _ _ _ _ HR0.out) Tryd.underlying79 rfl HI.out) rfl ⟨⟨cs, rfl, HP.out⟩, ?_⟩
      exact below_setRowC BW.out (Nat.le_refl _) _
    | succ l =>
      have : lv = (l : Int) := by omega
      subst this
      have hl : l < 20 := by omega
      have l0 : (0 : Int) ≤ (l : Int) := by omega
      have l1 : (l : Int) < 20 := by omega
      have HL := Lib.hid hl
      clear hr1 hr0 hpath hbw hlv hk
      go_wp2_with fail
      go_loopw [6, 7] (fun v6 v7 wi => ∃ (P A : List Nd) (B c : Nat), v6 = .slice (some ⟨B, 0, none⟩) c c ∧ v7 = .int .i64 (P.length : Int) ∧ pre = P ++ A ∧ Hind F l P B c ∧ PRow wi (w.heap.size + 1) cs ∧ PRow wi w.heap.size zeros ∧ Below w.heap.size w wi) (fun _ v7 _ => pre.length - (intOf v7).toNat)
      case atStart => exact ⟨P, A, B, c, rfl, rfl, hpre, hbh, HR1.out, HR0.out, BW.out⟩
      case round =>
        clear hpre hbh HR1 HR0 BW
        obtain ⟨P2, A2, B2, c2, rfl, rfl, hpre, hbh, hr1, hr0, hbw⟩ := hrel
        have HR1 := Lib.hid hr1
        have HR0 := Lib.hid hr0
        have BW := Lib.hid hbw
        have HPRE := Lib.hid hpre
        have HBH := Lib.hid hbh
        have lc : (l : Int) < (c2 : Int) := by have := hbh.room hl; omega
        have bd := HB.out.below hbw
        have le := bd.lev l hl
        rw [hpre, List.append_assoc] at le
        have lk := le.at_ hbh
        obtain ⟨p, hp⟩ : ∃ p, P2.length = p := ⟨_, rfl⟩
        have HPL := Lib.hid hp
        rw [hp]
        have p9 : (p : Int) ≤ 100000 := by
          have := H9.out
          rw [hpre] at this
          simp at this
          omega
        have p0 : (0 : Int) ≤ (p : Int) := by omega
        rcases nx_cases l (A2 ++ post) with ⟨en, hall⟩ | ⟨A', y, C, eA, hA', hy, en⟩
        · have k0 := lk.to
          have k1 := lk.width
          rw [en] at k0 k1
          replace k0 : wr.cell? ⟨B2, l * 2, none⟩ = some (.pointer none) := k0
          replace k1 : wr.cell? ⟨B2, l * 2 + 1, none⟩ = some (.int .i64 0) := k1
          have HALL : Hid (∀ y ∈ A2, y.h ≤ l) := fun y hy => hall y (List.mem_append_left _ hy)
          obtain ⟨u0, e0⟩ : ∃ u, cs[l * 2]? = some u := ⟨_, Array.getElem?_eq_getElem (by rw [HP.out.size]; omega)⟩
          obtain ⟨u1, e1⟩ : ∃ u, cs[l * 2 + 1]? = some u := ⟨_, Array.getElem?_eq_getElem (by rw [HP.out.size]; omega)⟩
          have far : ∀ o, Below wr.heap.size wr (wr.alloc o) := fun o => (Below.refl _ wr).alloc (Nat.le_refl _) o
          have s0 : ∀ o, (wr.alloc o).cell? ⟨w.heap.size + 1, l * 2, none⟩ = some u0 := fun o => ((far o).cell (p := ⟨w.heap.size + 1, l * 2, none⟩) hr1.lt).trans ((hr1.cell _).trans e0)
          have s1 : ∀ o, (wr.alloc o).cell? ⟨w.heap.size + 1, l * 2 + 1, none⟩ = some u1 := fun o => ((far o).cell (p := ⟨w.heap.size + 1, l * 2 + 1, none⟩) hr1.lt).trans ((hr1.cell _).trans e1)
          have f0 : ∀ o i, (wr.alloc o).frozen? ⟨w.heap.size + 1, i, none⟩ = false := fun o i => (World.frozen?_of_block ((far o).block _ hr1.lt)).trans (hr1.free i)
          clear hr1 hr0 hbw hpre hbh bd le lk hall en hp hl e0 e1 far
          go_wp2_with fail
          have al := (Below.refl _ wr).alloc (Nat.le_refl _) (.cells #[.pointer none, .int .i64 0] 74)
          refine ⟨⟨l, (l : Int) - 1, P2, A2, B2, c2, _, by omega, rfl, rfl, rfl, by rw [HPL.out], HPRE.out, HBH.out.lower (by omega), ((HR1.out.below al HR1.out.lt).put _ _).put _ _, ((HR0.out.below al HR0.out.lt).far (by show w.heap.size ≠ w.heap.size + 1; omega) _).far (by show w.heap.size ≠ w.heap.size + 1; omega) _, by rw [← HPL.out]; exact HP.out.put HL.out HPRE.out HALL.out HBH.out, ((BW.out.trans (al.mono BW.out.size)).setCell (by show w.heap.size ≤ w.heap.size + 1; omega) _).setCell (by show w.heap.size ≤ w.heap.size + 1; omega) _⟩, by simp [intOf]⟩
        · have k0 := lk.to
          have k1 := lk.width
          rw [en] at k0 k1
          obtain ⟨yb, hyb⟩ : ∃ b, y.b = b := ⟨_, rfl⟩
          obtain ⟨n, hn⟩ : ∃ n, A'.length + 1 = n := ⟨_, rfl⟩
          replace k0 : wr.cell? ⟨B2, l * 2, none⟩ = some (.pointer (some ⟨yb, 0, none⟩)) := by rw [← hyb]; exact k0
          replace k1 : wr.cell? ⟨B2, l * 2 + 1, none⟩ = some (.int .i64 (n : Int)) := by rw [← hn]; exact k1
          have yin : y ∈ pre ++ post := by rw [hpre, List.append_assoc, eA]; simp
          have eall : pre ++ post = (P2 ++ A') ++ y :: C := by rw [hpre, List.append_assoc, eA, List.append_assoc]
          have lall : P2.length + A'.length < (pre ++ post).length := by rw [eall]; simp
          have n9 : (n : Int) ≤ 100000 := by have := H9.out; omega
          have n1 : (1 : Int) ≤ (n : Int) := by omega
          have yat : (pre ++ post)[P2.length + A'.length] = y := by
            have : ∀ (l : List Nd) (e : l = (P2 ++ A') ++ y :: C) (h : P2.length + A'.length < l.length), l[P2.length + A'.length] = y := fun l e h => by
              subst e
              simp [List.getElem_append_right]
            exact this _ eall lall
          have hcall : ∀ W, Below w.heap.size w W → Calls Tryd.prog 36 #[.pointer (some ⟨yb, 0, none⟩), .int .i64 ((p : Int) + (n : Int) - 1), .pointer (some cap)] W fun e w' => e = .returned (.bool (decide (A'.length < A2.length))) ∧ Below W.heap.size W w' := fun W hW => by
            have := HA.out W hW _ lall
            rw [yat, hyb, show ((P2.length + A'.length : Nat) : Int) = (p : Int) + (n : Int) - 1 by omega] at this
            have e2 : decide (P2.length + A'.length < pre.length) = decide (A'.length < A2.length) := by
              rw [decide_eq_decide, hpre, List.length_append]
              omega
            rw [e2] at this
            exact this
          have HC := Lib.hid hcall
          have HEA := Lib.hid eA
          have HAL := Lib.hid hA'
          have HY := Lib.hid hy
          have HN := Lib.hid hn
          have HYI := Lib.hid yin
          have HYB := Lib.hid hyb
          have al := (Below.refl _ wr).alloc (Nat.le_refl _) (.cells #[.pointer (some ⟨yb, 0, none⟩), .int .i64 (n : Int)] 74)
          have AL := Lib.hid al
          have BX : Hid (Below w.heap.size w (wr.alloc (.cells #[.pointer (some ⟨yb, 0, none⟩), .int .i64 (n : Int)] 74))) := hbw.trans (al.mono hbw.size)
          clear hr1 hr0 hbw hpre hbh bd le lk en hp hl hyb hn yin eall lall yat hcall eA hA' hy al
          by_cases hd : A'.length < A2.length
          · have HD := Lib.hid hd
            have hdd : decide (A'.length < A2.length) = true := decide_eq_true hd
            rw [hdd] at HC
            clear hd hdd
            obtain ⟨yL, hyL⟩ : ∃ b, y.L = b := ⟨_, rfl⟩
            obtain ⟨yh, hyh⟩ : ∃ b, y.h = b := ⟨_, rfl⟩
            have HYL := Lib.hid (And.intro hyL hyh)
            clear hyL hyh
            go_wp2_with (go_at_call 36; refine (HC.out _ BX.out).mono ?_; rintro e w1 ⟨rfl, hb1⟩; have hb2 := AL.out.trans (hb1.mono AL.out.size); have hbx := BX.out.trans (hb1.mono BX.out.size); have b0 : w1.cell? ⟨wr.heap.size, 0, none⟩ = some (.pointer (some ⟨yb, 0, none⟩)) := (hb1.cell (p := ⟨wr.heap.size, 0, none⟩) (by show wr.heap.size < (wr.heap.push _).size; simp)).trans (by rw [World.cell?_alloc_new]; rfl); have b1 : w1.cell? ⟨wr.heap.size, 1, none⟩ = some (.int .i64 (n : Int)) := (hb1.cell (p := ⟨wr.heap.size, 1, none⟩) (by show wr.heap.size < (wr.heap.push _).size; simp)).trans (by rw [World.cell?_alloc_new]; rfl); have b2 : w1.cell? ⟨yb, 2, none⟩ = some (.slice (some ⟨yL, 0, none⟩) yh yh) := (by have q := ((HB.out.below hbx).nds y HYI.out).links; rw [HYB.out, HYL.out.1, HYL.out.2] at q; exact q); have HB2 := Lib.hid hb2; have HBX := Lib.hid hbx; clear hb1 hb2 hbx)
            go_region
            go_wp2_with fail
            obtain ⟨A3, hA3⟩ := in_front HEA.out HD.out
            refine ⟨⟨P2 ++ A' ++ [y], A3, yL, yh, rfl, ?_, ?_, ?_, (HR1.out.below HB2.out.drew HR1.out.lt), (HR0.out.below HB2.out.drew HR0.out.lt), HBX.out.drew⟩, ?_⟩
            · have := HPL.out; have := HN.out; simp; omega
            · rw [HPRE.out, hA3]; simp
            · exact .inr ⟨P2 ++ A', y, rfl, HYL.out.1.symm, HYL.out.2.symm, HY.out⟩
            · have := HPL.out; have := HN.out
              rw [HPRE.out, hA3]
              simp [intOf]
              omega
          · have hdd : decide (A'.length < A2.length) = false := decide_eq_false hd
            rw [hdd] at HC
            have HALL : Hid (∀ y ∈ A2, y.h ≤ l) := fun z hz => by
              obtain ⟨t, ht⟩ := out_front HEA.out hd
              exact HAL.out z (by rw [ht]; exact List.mem_append_left _ hz)
            clear hd hdd
            obtain ⟨u0, e0⟩ : ∃ u, cs[l * 2]? = some u := ⟨_, Array.getElem?_eq_getElem (by rw [HP.out.size]; have := HL.out; omega)⟩
            obtain ⟨u1, e1⟩ : ∃ u, cs[l * 2 + 1]? = some u := ⟨_, Array.getElem?_eq_getElem (by rw [HP.out.size]; have := HL.out; omega)⟩
            have E0 := Lib.hid e0
            have E1 := Lib.hid e1
            clear e0 e1
            go_wp2_with (go_at_call 36; refine (HC.out _ BX.out).mono ?_; rintro e w1 ⟨rfl, hb1⟩; have hb2 := AL.out.trans (hb1.mono AL.out.size); have hbx := BX.out.trans (hb1.mono BX.out.size); have r1 := HR1.out.below hb2 HR1.out.lt; have s0 : w1.cell? ⟨w.heap.size + 1, l * 2, none⟩ = some u0 := (r1.cell _).trans E0.out; have s1 : w1.cell? ⟨w.heap.size + 1, l * 2 + 1, none⟩ = some u1 := (r1.cell _).trans E1.out; have f0 : ∀ i, w1.frozen? ⟨w.heap.size + 1, i, none⟩ = false := (fun i => r1.free i); have HB2 := Lib.hid hb2; have HBX := Lib.hid hbx; clear hb1 hb2 hbx r1)
            refine ⟨⟨l, (l : Int) - 1, P2, A2, B2, c2, _, by omega, rfl, rfl, rfl, by rw [HPL.out], HPRE.out, HBH.out.lower (by omega), ((HR1.out.below HB2.out HR1.out.lt).put _ _).put _ _, ((HR0.out.below HB2.out HR0.out.lt).far (by show w.heap.size ≠ w.heap.size + 1; omega) _).far (by show w.heap.size ≠ w.heap.size + 1; omega) _, by rw [← HPL.out]; exact HP.out.put HL.out HPRE.out HALL.out HBH.out, (HBX.out.setCell (by show w.heap.size ≤ w.heap.size + 1; omega) _).setCell (by show w.heap.size ≤ w.heap.size + 1; omega) _⟩, by simp [intOf]⟩
end Go.Proofs.YtopnbfhkfagemaaDoor
