/- The walk of the law PlaneTotals, out of what is asked of package plane. -/
import Derived.Test.YtgcacpcjlbhniaaDoorTotI
import Derived.Test.YtgcacpcjlbhniaaDoorInts
namespace Go.Proofs.YtgcacpcjlbhniaaDoor
open Go.RowKit
set_option linter.unusedVariables false
def TInv (w : World) (n : Nat) (vl vb sx sy i : Value) (wr : World) : Prop :=
  ∃ (j : Nat) (pts : List (Int × Int)), j ≤ n ∧ i = .int .i64 j ∧ pts.length = j ∧ Small pts ∧ sx = .int .i64 (psum pts).1 ∧ sy = .int .i64 (psum pts).2 ∧
    wr.ownsRow w.heap.size 32 2 vl pts.length (pcells pts) ∧ wr.ownsRow w.heap.size 32 2 vb pts.reverse.length (pcells pts.reverse) ∧
    (∀ k, vl.ownBlock = some k → vb.ownBlock ≠ some k) ∧ Below w.heap.size w wr
theorem pt_block (w : World) (C : Array Value) (m n : Int) (hC : C = (pcells [(m, n)]).toArray) : PtRow (w.alloc (.cells C 32)) (some ⟨w.heap.size, 0, none⟩) [(m, n)] := by
  subst hC
  intro i hi
  have : i = 0 := by simpa using hi
  subst this
  refine ⟨_, rfl, by simp, ?_, ?_⟩
  · show (w.alloc _).cell? ⟨w.heap.size, 0, none⟩ = _
    rw [World.cell?_alloc_mark]; rfl
  · show (w.alloc _).cell? ⟨w.heap.size, 1, none⟩ = _
    rw [World.cell?_alloc_mark]; rfl
theorem pt_own (w : World) (base : Nat) (hb : base ≤ w.heap.size) (C : Array Value) (m n : Int) (hC : C = (pcells [(m, n)]).toArray) : (w.alloc (.cells C 32)).ownsRow base 32 2 (.slice (some ⟨w.heap.size, 0, none⟩) 1 1) [(m, n)].length (pcells [(m, n)]) := by
  subst hC
  exact ⟨rfl, .inr ⟨w.heap.size, 1, _, rfl, hb, heap_alloc_new _ _, Nat.le_refl _, by decide, rfl, rfl⟩⟩
theorem tmod_k (x : Int) : (x.tmod 1001).natAbs ≤ 1000 := by
  have h1 : x.tmod 1001 < 1001 := Int.tmod_lt_of_pos x (by omega)
  have h2 : -1001 < x.tmod 1001 := Int.lt_tmod_of_pos x (by omega)
  omega
theorem pv_ofInt2 (m n : Int) : Value.complex .f64 (floatOfInt .f64 m) (floatOfInt .f64 n) = Pv m n := by rw [Fl.ofInt_fw, Fl.ofInt_fw]; rfl
theorem own_slice_row {w : World} {base n n' c : Nat} {A : Option Addr} {l : List (Int × Int)} (h : w.ownsRow base 32 2 (.slice A n c) n' (pcells l)) : l.length = n ∧ (A = none → c = 0) ∧ n ≤ c ∧ PtRow w A l := by
  obtain ⟨A', c', e, a, b, d, f⟩ := ow_pts h
  cases e
  exact ⟨a, b, d, f⟩
theorem first_put {W w4 : World} {base n2 : Nat} {vl vb v4 : Value} {xs : List Value} (h : W.ownsRow base 32 2 vb n2 xs) (hap : ∀ k, vl.ownBlock = some k → vb.ownBlock ≠ some k) (g : W.grownBy w4 vl.ownBlock) (g4 : v4.ownBlock = vl.ownBlock ∨ v4.ownBlock = some W.heap.size) :
    w4.ownsRow base 32 2 vb n2 xs ∧ ∀ k, v4.ownBlock = some k → vb.ownBlock ≠ some k := by
  constructor
  · refine h.kept g ?_
    cases e : vb.ownBlock with
    | none => exact .inl rfl
    | some k => exact .inr fun q => hap k q.symm e
  · intro k hk e
    rcases g4 with q | q
    · exact hap k (by rw [← q]; exact hk) e
    · rw [q] at hk
      injection hk with hk
      have := (h.lt k e).2
      omega
theorem second_put {w4 w6 : World} {base n : Nat} {v4 v6 : Value} {xs : List Value} {C : Array Value} (h : w4.ownsRow base 32 2 v4 n xs) (g : (w4.alloc (.cells C 32)).grownBy w6 (some w4.heap.size)) (g4 : v6.ownBlock = some w4.heap.size ∨ v6.ownBlock = some (w4.alloc (.cells C 32)).heap.size) :
    w6.ownsRow base 32 2 v4 n xs ∧ ∀ k, v4.ownBlock = some k → v6.ownBlock ≠ some k := by
  have h5 := ow_keep h ((Below.refl w4.heap.size w4).alloc (Nat.le_refl _) (.cells C 32))
  have hs : (w4.alloc (.cells C 32)).heap.size = w4.heap.size + 1 := by simp
  constructor
  · refine h5.kept g ?_
    cases e : v4.ownBlock with
    | none => exact .inl rfl
    | some k =>
      have := (h.lt k e).2
      exact .inr fun q => by injection q; omega
  · intro k hk e
    have := (h.lt k hk).2
    rcases g4 with q | q
    · rw [q] at e; injection e; omega
    · rw [q, hs] at e; injection e; omega
theorem rev_snoc (pts : List (Int × Int)) (a : Int × Int) : [a] ++ pts.reverse = (pts ++ [a]).reverse := by simp
set_option maxHeartbeats 1000000 in
theorem totals_long (R : PlaneOk) (A B : Option Addr) (n m ca cb : Nat) (w : World) (h : 20 < n ∨ m < n) :
    Calls Tryd.prog 3 #[.slice A n ca, .slice B m cb] w fun e w' => e = .returned (.bool true) ∧ Below w.heap.size w w' := by
  by_cases h1 : 20 < n
  · have i1 : (20 : Int) < (n : Int) := by omega
    go_enter Tryd.func3, Tryd.ntmps3
    go_wp2_with (go_at_call 4; refine (told_any R _).mono ?_; rintro e w' ⟨rfl, hb⟩)
    go_ret
    exact ⟨rfl, hb⟩
  · have i1 : (n : Int) ≤ 20 := by omega
    have i2 : (m : Int) < (n : Int) := by omega
    go_enter Tryd.func3, Tryd.ntmps3
    go_wp2_with (go_at_call 4; refine (told_any R _).mono ?_; rintro e w' ⟨rfl, hb⟩)
    go_ret
    exact ⟨rfl, hb⟩
set_option maxRecDepth 20000 in
set_option maxHeartbeats 8000000 in
theorem totals_short (R : PlaneOk) (R2 : PlaneOk2) (A B : Option Addr) (xs ys : List Int) (n m ca cb : Nat) (w : World) (hn : xs.length = n) (hm : ys.length = m) (hca : n ≤ ca) (hcb : m ≤ cb) (hA : Row w A (xs.map (Value.int .i64))) (hB : Row w B (ys.map (Value.int .i64))) (h20 : n ≤ 20) (hmn : n ≤ m)
    (htab : Lib.TabIs Tryd.prog w "internal/strconv.uint64pow10" .u64 Lib.pow10Tab) :
    Calls Tryd.prog 3 #[.slice A n ca, .slice B m cb] w fun e w' => e = .returned (.bool true) ∧ Below w.heap.size w w' := by
  have i0 : (0 : Int) ≤ (n : Int) := by omega
  have i1 : (n : Int) ≤ 20 := by omega
  have i2 : (n : Int) ≤ (m : Int) := by omega
  have dm : decide (m < n) = false := decide_eq_false (by omega)
  have HR := Lib.hid R
  have HR2 := Lib.hid R2
  have HA := Lib.hid hA
  have HB := Lib.hid hB
  have HN := Lib.hid hn
  have HM := Lib.hid hm
  have HT := Lib.hid htab
  have hg := run_eqG
  clear R R2 hA hB hn hm htab
  go_enter Tryd.func3, Tryd.ntmps3
  go_wp2_with fail
  go_loopw [5, 6, 7, 8, 9] (fun vl vb sx sy i wr => TInv w n vl vb sx sy i wr) (fun _ _ _ _ i _ => n - (intOf i).toNat)
  case atStart => exact ⟨0, [], Nat.zero_le _, rfl, rfl, (fun a ha => nomatch ha), rfl, rfl, World.ownsRow_nil _ _ _ _, World.ownsRow_nil _ _ _ _, (fun k hk => nomatch hk), Below.refl _ _⟩
  case round =>
    obtain ⟨j, pts, hj, rfl, hpl, hsm, rfl, rfl, ho1, ho2, hap, hbw⟩ := hrel
    have HO1 := Lib.hid ho1
    have HO2 := Lib.hid ho2
    have HAP := Lib.hid hap
    have BW := Lib.hid hbw
    have HPL := Lib.hid hpl
    have HSM := Lib.hid hsm
    have j0 : (0 : Int) ≤ (j : Int) := by omega
    have hps := psum_small pts hsm
    obtain ⟨s1, hs1⟩ : ∃ z, (psum pts).1 = z := ⟨_, rfl⟩
    obtain ⟨s2, hs2⟩ : ∃ z, (psum pts).2 = z := ⟨_, rfl⟩
    rw [hs1, hs2] at hps ⊢
    have HS1 := Lib.hid hs1
    have HS2 := Lib.hid hs2
    have hsb1 : s1.natAbs ≤ 20000 := by omega
    have hsb2 : s2.natAbs ≤ 20000 := by omega
    have b1 : -20000 ≤ s1 := by omega
    have b2 : s1 ≤ 20000 := by omega
    have b3 : -20000 ≤ s2 := by omega
    have b4 : s2 ≤ 20000 := by omega
    clear ho1 ho2 hap hbw hpl hsm hps hs1 hs2
    by_cases hlt : j < n
    · have j1 : (j : Int) < (n : Int) := by omega
      have j2 : (j : Int) < (m : Int) := by omega
      obtain ⟨p, rfl, hp, hpc⟩ := (HA.out).at_ j (by rw [HN.out]; exact hlt)
      obtain ⟨q, rfl, hq, hqc⟩ := (HB.out).at_ j (by rw [HM.out]; omega)
      have hpc2 := (BW.out.cell (p := p.add j) (by rw [add_block]; exact hp)).trans hpc
      have hqc2 := (BW.out.cell (p := q.add j) (by rw [add_block]; exact hq)).trans hqc
      obtain ⟨X, hX⟩ : ∃ X, xs[j]'(by rw [HN.out]; exact hlt) = X := ⟨_, rfl⟩
      obtain ⟨Y, hY⟩ : ∃ Y, ys[j]'(by rw [HM.out]; omega) = Y := ⟨_, rfl⟩
      rw [hX] at hpc2
      rw [hY] at hqc2
      obtain ⟨x, hx⟩ : ∃ x, X.tmod 1001 = x := ⟨_, rfl⟩
      obtain ⟨y, hy⟩ : ∃ y, Y.tmod 1001 = y := ⟨_, rfl⟩
      have nx : x.natAbs ≤ 1000 := by rw [← hx]; exact tmod_k X
      have ny : y.natAbs ≤ 1000 := by rw [← hy]; exact tmod_k Y
      have x1 : -1000 ≤ x := by omega
      have x2 : x ≤ 1000 := by omega
      have y1 : -1000 ≤ y := by omega
      have y2 : y ≤ 1000 := by omega
      have ixy : In x y := ⟨by omega, by omega⟩
      obtain ⟨f1, hf1⟩ : ∃ f, Fl.fw false x = f := ⟨_, rfl⟩
      obtain ⟨f2, hf2⟩ : ∃ f, Fl.fw false y = f := ⟨_, rfl⟩
      have hpv : Pv x y = .complex .f64 f1 f2 := by unfold Pv; rw [hf1, hf2]
      have hfo1 : floatOfInt .f64 x = f1 := by rw [Fl.ofInt_fw, hf1]
      have hfo2 : floatOfInt .f64 y = f2 := by rw [Fl.ofInt_fw, hf2]
      have PX : Hid (∀ W, Lib.TabIs Tryd.prog W "internal/strconv.uint64pow10" .u64 Lib.pow10Tab → Calls Tryd.prog 6 #[.int .i64 x] W fun e w' => e = .returned (.string ⟨(Lib.itoa x).toArray⟩) ∧ Below W.heap.size W w') := fun W h => rprint_any x (by omega) (by omega) W h
      have PY : Hid (∀ W, Lib.TabIs Tryd.prog W "internal/strconv.uint64pow10" .u64 Lib.pow10Tab → Calls Tryd.prog 6 #[.int .i64 y] W fun e w' => e = .returned (.string ⟨(Lib.itoa y).toArray⟩) ∧ Below W.heap.size W w') := fun W h => rprint_any y (by omega) (by omega) W h
      have PP : Hid (∀ W, Calls Tryd.prog 5 #[.string ⟨(Lib.itoa x).toArray⟩, .string ⟨(Lib.itoa y).toArray⟩] W fun e w' => e = .returned (.tuple #[.complex .f64 f1 f2, .bool true]) ∧ Below W.heap.size W w') := fun W => by
        have z := HR2.out.parse x y W ixy
        rw [hpv] at z; exact z
      have PM : Hid (∀ W, Calls Tryd.prog 7 #[.complex .f64 f1 f2] W fun e w' => e = .returned (.bool true) ∧ Below W.heap.size W w') := fun W => by
        have z := HR.out.may x y W ixy
        rw [hpv] at z; exact z
      have ne1 : ∀ W : World, (binOp .neq 25 (.complex .f64 f1 f2) (.complex .f64 f1 f2)).run Tryd.prog W = .ok (.bool false) W := fun W => by
        have z := run_same W 25 ixy ixy
        rw [hpv, decide_eq_true ⟨rfl, rfl⟩] at z
        exact z
      have HCC : Hid (#[Value.string ⟨#[]⟩, .complex .f64 f1 f2] = (pcells [(x, y)]).toArray) := by
        show #[Value.string ⟨#[]⟩, .complex .f64 f1 f2] = _
        rw [← hpv]; rfl
      have NEWS : Hid (Small (pts ++ [(x, y)])) := by
        intro a ha
        rcases List.mem_append.1 ha with k | k
        · exact HSM.out a k
        · have := List.mem_singleton.1 k
          subst this
          exact ⟨nx, ny⟩
      have NP1 : Hid (s1 + x = (psum (pts ++ [(x, y)])).1) := by
        show s1 + x = _
        rw [psum_append, ← HS1.out]; simp [psum]
      have NP2 : Hid (s2 + y = (psum (pts ++ [(x, y)])).2) := by
        show s2 + y = _
        rw [psum_append, ← HS2.out]; simp [psum]
      have HTR := Lib.hid (tab_below HT.out BW.out)
      have ca1 : (n : Int) ≤ (ca : Int) := by omega
      have cb1 : (m : Int) ≤ (cb : Int) := by omega
      clear hpc hqc hX hY nx ny ixy hf1 hf2 hpv
      have HO2j := HO2.out
      rw [List.length_reverse, HPL.out] at HO2j
      obtain ⟨Ab, cbb, rfl, hbl, hbn, hbc, -⟩ := ow_pts HO2j
      clear HO2j
      have HW : Hid (Below wr.heap.size wr wr.drew) := (Below.refl _ wr).drew
      have HBB : Hid (Below w.heap.size w wr.drew) := BW.out.drew
      have PL9 : Hid (pts.length + 1 ≤ 4096) := by show pts.length + 1 ≤ 4096; have := HPL.out; omega
      have PL8 : Hid ([(x, y)].length + j ≤ 4096) := by show [(x, y)].length + j ≤ 4096; simp; omega
      clear hbl hbn hbc
      go_wp2_with fail
      go_region
      go_wp2_with (first
        | (go_at_call 6; with_reducible refine (PX.out _ (tab_below HT.out HBB.out)).mono ?_; rintro e w' ⟨rfl, hb⟩; have HW := Lib.hid (below_and HW.out hb); have HBB := Lib.hid (BW.out.trans (HW.out.mono BW.out.size)); clear hb)
        | (go_at_call 6; with_reducible refine (PY.out _ (tab_below HT.out HBB.out)).mono ?_; rintro e w' ⟨rfl, hb⟩; have HW := Lib.hid (below_and HW.out hb); have HBB := Lib.hid (BW.out.trans (HW.out.mono BW.out.size)); clear hb)
        | (go_at_call 5; with_reducible refine (PP.out _).mono ?_; rintro e w' ⟨rfl, hb⟩; have HW := Lib.hid (below_and HW.out hb); have HBB := Lib.hid (BW.out.trans (HW.out.mono BW.out.size)); clear hb)
        | (go_at_call 7; with_reducible refine (PM.out _).mono ?_; rintro e w3 ⟨rfl, hb⟩; have HW := Lib.hid (below_and HW.out hb); have HBB := Lib.hid (BW.out.trans (HW.out.mono BW.out.size)); clear hb)
        | (at_builtin; go_loud (refine wpList_append_pts rfl (.tmp 75) (.tmp 78) rfl w _ pts rfl (ow_keep HO1.out (below_and HW.out ((Below.refl _ _).alloc (Nat.le_refl _) _))) (HBB.out.alloc HBB.out.size _) (some ⟨_, 0, none⟩) 1 1 [(x, y)] rfl rfl (fun e => nomatch e) (pt_block _ _ x y HCC.out) PL9.out ?_); intro v4 w4 own4 bw4 g2 g4; have AF := (first_put (ow_keep HO2.out (below_and HW.out ((Below.refl _ w3).alloc (Nat.le_refl _) (.cells #[Value.string ⟨#[]⟩, .complex .f64 f1 f2] 32)))) HAP.out g2 g4); have AF1 := Lib.hid AF.1; have AF2 := Lib.hid AF.2; have OW4 := Lib.hid own4; have BW4 := Lib.hid bw4; clear own4 bw4 g2 g4 AF)
        | (at_builtin; go_loud (refine wpList_append_pts rfl (.tmp 82) (.tmp 83) rfl w _ [(x, y)] rfl (pt_own _ _ BW4.out.size _ x y HCC.out) (BW4.out.alloc BW4.out.size _) Ab j cbb pts.reverse rfl (own_slice_row AF1.out).1 (own_slice_row AF1.out).2.1 (own_slice_row (ow_keep AF1.out ((Below.refl _ _).alloc (Nat.le_refl _) _))).2.2.2 PL8.out ?_); intro v6 w6 own6 bw6 g2 g4; have AF := second_put OW4.out g2 g4; have AG1 := Lib.hid AF.1; have AG2 := Lib.hid AF.2; have OW6 := Lib.hid own6; have BW6 := Lib.hid bw6; clear own6 bw6 g2 g4 AF))
      go_roundw
      case rel => exact ⟨j + 1, pts ++ [(x, y)], hlt, by go_num, by rw [List.length_append, HPL.out]; rfl, NEWS.out, by rw [← NP1.out], by rw [← NP2.out], AG1.out, by rw [← rev_snoc]; exact OW6.out, AG2.out, BW6.out⟩
      case measure => simp [intOf]; omega
    · have j1 : (n : Int) ≤ (j : Int) := by omega
      have HO1j := HO1.out
      have HO2j := HO2.out
      rw [HPL.out] at HO1j
      rw [List.length_reverse, HPL.out] at HO2j
      obtain ⟨Al, cl, rfl, hll, hln, hlc, hlr⟩ := ow_pts HO1j
      obtain ⟨Ab, cbb, rfl, hbl, hbn, hbc, hbr⟩ := ow_pts HO2j
      clear HO1j HO2j
      have isum : In s1 s2 := ⟨by omega, by omega⟩
      have SL : Hid (∀ W, Below wr.heap.size wr W → Calls Tryd.prog 8 #[.slice Al j cl] W fun e w' => e = .returned (.tuple #[Pv s1 s2, .bool true]) ∧ Below W.heap.size W w') := fun W hW => by
        have o := own_slice_row (ow_keep HO1.out hW)
        have z := HR2.out.sum Al pts cl W o.2.1 (by rw [HPL.out]; exact o.2.2.1) (by have := HPL.out; omega) o.2.2.2 HSM.out
        rw [HS1.out, HS2.out, HPL.out] at z; exact z
      have SB : Hid (∀ W, Below wr.heap.size wr W → Calls Tryd.prog 8 #[.slice Ab j cbb] W fun e w' => e = .returned (.tuple #[Pv s1 s2, .bool true]) ∧ Below W.heap.size W w') := fun W hW => by
        have o := own_slice_row (ow_keep HO2.out hW)
        have z := HR2.out.sum Ab pts.reverse cbb W o.2.1 (by rw [List.length_reverse, HPL.out]; exact o.2.2.1) (by rw [List.length_reverse]; have := HPL.out; omega) o.2.2.2 (fun a ha => HSM.out a (List.mem_reverse.1 ha))
        rw [psum_rev, HS1.out, HS2.out, List.length_reverse, HPL.out] at z; exact z
      have q1 : ∀ W : World, (binOp .eql 25 (Pv s1 s2) (Pv s1 s2)).run Tryd.prog W = .ok (.bool true) W := fun W => by rw [run_equal W _ isum isum, decide_eq_true ⟨rfl, rfl⟩]
      have q2 : ∀ W : World, (binOp .eql 25 (Pv s1 s2) (.complex .f64 (floatOfInt .f64 s1) (floatOfInt .f64 s2))).run Tryd.prog W = .ok (.bool true) W := fun W => by rw [pv_ofInt2, run_equal W _ isum isum, decide_eq_true ⟨rfl, rfl⟩]
      have TD := Lib.hid (told_any HR.out)
      have HW : Hid (Below wr.heap.size wr wr) := Below.refl _ wr
      clear hll hln hlc hlr hbl hbn hbc hbr isum
      go_wp2_with (first
        | (go_at_call 8; with_reducible refine (SL.out _ HW.out).mono ?_; rintro e w' ⟨rfl, hb⟩; have HW := Lib.hid (below_and HW.out hb); clear hb)
        | (go_at_call 8; with_reducible refine (SB.out _ HW.out).mono ?_; rintro e w' ⟨rfl, hb⟩; have HW := Lib.hid (below_and HW.out hb); clear hb)
        | (go_at_call 4; with_reducible refine (TD.out _).mono ?_; rintro e w' ⟨rfl, hb⟩; have HW := Lib.hid (below_and HW.out hb); clear hb))
      go_ret
      exact ⟨by first | rfl | simp, BW.out.trans (HW.out.mono BW.out.size)⟩
end Go.Proofs.YtgcacpcjlbhniaaDoor
