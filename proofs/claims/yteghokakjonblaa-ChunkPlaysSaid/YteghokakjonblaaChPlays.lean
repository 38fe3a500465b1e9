/- The walk of the law ChunkPlays: a row and a plain list, op by op. -/
import Derived.Test.YteghokakjonblaaChPlay
import Derived.Test.YteghokakjonblaaChOps
namespace Go.Proofs.Yteghokakjonblaa
open Go.RowKit Go.Lib
set_option linter.unusedVariables false
/-- A row and a list of the law's own, at the beginning. -/
theorem ps_start {w0 w w' : World} {q g c : Nat} {l : List ByteArray} (h : Fresh w0 w q l) (b : Below w.heap.size w w') (it : IsTx w' (some ⟨g, 0, none⟩) l c) (ge : w.heap.size ≤ g) (lt : g < w'.heap.size) : PS w0 w' q l l g 0 c := by
  obtain ⟨R, fi, fl, fk, hb⟩ := h
  exact ⟨⟨R, ⟨fi.lies.below b, fi.num, fi.nice⟩, fl, fk, fun e => by have := fi.lies.in_lt e; omega⟩, below_then hb b, it, lt⟩
theorem wfc_lo {a : Int} (h : (Lit.int .i64 a).wf = true) : -9223372036854775808 ≤ a := by
  simp only [Lit.wf, Bool.and_eq_true, decide_eq_true_eq] at h; exact h.1
theorem wfc_hi {a : Int} (h : (Lit.int .i64 a).wf = true) : a ≤ 9223372036854775807 := by
  simp only [Lit.wf, Bool.and_eq_true, decide_eq_true_eq] at h; exact h.2
def CInv (w : World) (q N n0 : Nat) (v i : Value) (wr : World) : Prop :=
  ∃ (j : Nat) (l : List ByteArray) (g o c : Nat), j ≤ N ∧ j ≤ 100 ∧ l.length ≤ n0 + j ∧ v = .slice (some ⟨g, o, none⟩) l.length c ∧ i = .int .i64 (j : Int) ∧ PS w wr q l l g o c
set_option maxRecDepth 20000 in
set_option maxHeartbeats 8000000 in
theorem plays_walk (w : World) (A : Option Addr) (l0 : List ByteArray) (c : Nat) (itx : IsTx w A l0 c) (hsz : ∀ x ∈ l0, x.size ≤ 281474976710656) (B : Option Addr) (ops : List OpV) (cb : Nat) (hcb : ops.length ≤ cb) (hrow : OpRow w B ops) (hok : ∀ o ∈ ops, o.Ok) :
    Calls Try.prog 3 #[.slice A l0.length c, .slice B ops.length cb] w fun e w' => e = .returned (.bool true) ∧ Below w.heap.size w w' := by
  have q0 := run_nil_row
  obtain ⟨n, en⟩ : ∃ n, n = l0.length := ⟨_, rfl⟩
  obtain ⟨N, eN⟩ : ∃ N, N = ops.length := ⟨_, rfl⟩
  have lc := itx.2.1
  have lc9 := itx.2.2.1
  unfold maxLen at lc9
  rw [← en] at lc ⊢
  rw [← eN] at hcb ⊢
  have n0 : (0 : Int) ≤ (n : Int) := by omega
  have n9 : (n : Int) ≤ 9223372036854775807 := by omega
  have N0 : (0 : Int) ≤ (N : Int) := by omega
  have ITX := Lib.hid itx
  have LN := Lib.hid en
  have LN2 := Lib.hid eN
  have ROW := Lib.hid hrow
  have OK := Lib.hid hok
  by_cases h1 : 100 < n
  · have h1' : (100 : Int) < (n : Int) := by omega
    clear itx hsz en eN hrow hok
    go_enter Try.func3, Try.ntmps3
    go_wp2_with fail
    go_at_call 7
    with_reducible refine (told_any _).mono ?_
    rintro e w1 ⟨rfl, hb⟩
    have HB := Lib.hid hb
    clear hb
    go_wp2_with fail
    go_ret
    exact ⟨rfl, HB.out⟩
  have h1' : (n : Int) ≤ 100 := by omega
  have OF := Lib.hid (of_any w A l0 c itx (by omega) hsz)
  rw [← en] at OF
  have NN : Hid (n ≤ 100 ∧ n = l0.length) := ⟨by omega, en⟩
  clear itx hsz en eN hrow hok h1 lc lc9
  go_enter Try.func3, Try.ntmps3
  go_wp2_with fail
  go_at_call 8
  with_reducible refine OF.out.mono ?_
  rintro e w1 ⟨q, rfl, f1⟩
  have F1 := Lib.hid f1
  clear f1
  have B1 : Hid (Below w1.heap.size w1 (w1.alloc (.cells #[] 9))) := (Below.refl _ w1).alloc (Nat.le_refl _) _
  go_wp2_with (first
    | (at_builtin; (refine wpList_mine rfl (.tmp 18) (.tmp 19) rfl rfl (mine_none w1.heap.size (Nat.le_refl _) (heap_alloc_new _ _)) A n c rfl LN.out.symm ((ITX.out.keep F1.out.bel).keep B1.out) (by have := NN.out; simp only [List.length_nil]; omega) B1.out.size ?_); intro v2 w2 m2 b2 k2; rw [List.nil_append] at m2; obtain ⟨g2, c2, rfl, it2, ge2, lt2⟩ := m2.slice; have P2 := Lib.hid (ps_start F1.out (below_then_at B1.out b2) it2 ge2 lt2); clear m2 b2 k2 it2 ge2 lt2)
    | fail)
  go_loopw [6, 7, 8, 9] (fun v i _ _ wr => CInv w q N n v i wr) (fun _ i _ _ _ => 100 - (RowKit.intOf i).toNat)
  case atStart => exact ⟨0, l0, g2, 0, c2, Nat.zero_le _, Nat.zero_le _, by have := NN.out; omega, by rw [← LN.out], rfl, P2.out⟩
  case round =>
    obtain ⟨j, l, g, o, cc, hj, hj1, hl, rfl, rfl, ps⟩ := hrel
    have J := Lib.hid (And.intro hj (And.intro hj1 hl))
    have P := Lib.hid ps
    obtain ⟨m, em⟩ : ∃ m, m = l.length := ⟨_, rfl⟩
    rw [← em]
    have LM := Lib.hid em
    have j0 : (0 : Int) ≤ (j : Int) := by omega
    have m0 : (0 : Int) ≤ (m : Int) := by omega
    have m9 : (m : Int) ≤ 200 := by have := NN.out; omega
    clear hj hj1 hl ps em
    by_cases lt : j < N ∧ j < 100
    · obtain ⟨lt1, lt2⟩ := lt
      have j1 : (j : Int) < (N : Int) := by omega
      have j2 : (j : Int) < 100 := by omega
      have dj : decide ((j : Int) < 100) = true := decide_eq_true j2
      have hjl : j < ops.length := by rw [← LN2.out]; exact lt1
      obtain ⟨pb, rfl, hq, hcell⟩ := ROW.out j hjl
      obtain ⟨ov, hov⟩ : ∃ ov, ops[j] = ov := ⟨_, rfl⟩
      have okv : ov.Ok := OK.out ov (by rw [← hov]; exact List.getElem_mem hjl)
      rw [hov] at hcell
      have bel := P.out.bel
      have hce : ∀ i, i < 5 → wr.cell? ((pb.add (j * 5)).add i) = (ov.vals)[i]? := fun i hi => (bel.cell (p := (pb.add (j * 5)).add i) (by rw [add_block, add_block]; exact hq)).trans (hcell i hi)
      obtain ⟨k, oi, oj, f, s⟩ := ov
      have e0 : wr.cell? (pb.add (j * 5)) = some (.int .i64 k) := by
        have := hce 0 (by omega)
        rw [show (pb.add (j * 5)).add 0 = pb.add (j * 5) by simp [Addr.add]] at this
        exact this
      have e1 : wr.cell? ⟨(pb.add (j * 5)).block, (pb.add (j * 5)).off + 1, none⟩ = some (.int .i64 oi) := hce 1 (by omega)
      have e2 : wr.cell? ⟨(pb.add (j * 5)).block, (pb.add (j * 5)).off + 2, none⟩ = some (.int .i64 oj) := hce 2 (by omega)
      have e3 : wr.cell? ⟨(pb.add (j * 5)).block, (pb.add (j * 5)).off + 3, none⟩ = some (.bool f) := hce 3 (by omega)
      have e4 : wr.cell? ⟨(pb.add (j * 5)).block, (pb.add (j * 5)).off + 4, none⟩ = some (.string s) := hce 4 (by omega)
      have LT := Lib.hid (And.intro lt1 lt2)
      have s0 : (0 : Int) ≤ (s.size : Int) := by omega
      have OKV := Lib.hid okv
      clear hce hcell hov hq bel okv lt1 lt2
      by_cases hm : 20 < s.size
      · have hm' : (20 : Int) < (s.size : Int) := by omega
        go_wp2_with fail
        go_at_call 7
        with_reducible refine (told_any _).mono ?_
        rintro e w3 ⟨rfl, hb⟩
        have HB := Lib.hid hb
        clear hb
        go_wp2_with fail
        go_ret
        exact ⟨rfl, P.out.bel.trans (HB.out.mono P.out.bel.size)⟩
      have hm' : (s.size : Int) ≤ 20 := by omega
      have PL := Lib.hid (play_any w wr q g o cc l P.out k oi oj f s (wfc_lo OKV.out.i) (wfc_hi OKV.out.i) (wfc_lo OKV.out.j) (wfc_hi OKV.out.j) (by omega) (by have := LM.out; omega))
      rw [← LM.out] at PL
      clear hm
      go_wp2_with fail
      go_at_call 9
      with_reducible refine PL.out.mono ?_
      rintro e w3 ⟨l3, g3, o3, c3, rfl, p3, hl3⟩
      have P3 := Lib.hid p3
      obtain ⟨z, ez⟩ : ∃ z, z = l3.length := ⟨_, rfl⟩
      rw [← ez]
      have LZ := Lib.hid ez
      have HL := Lib.hid hl3
      have z0 : (0 : Int) ≤ (z : Int) := by omega
      have z9 : (z : Int) ≤ 201 := by have := LM.out; omega
      obtain ⟨u, hu⟩ : ∃ u, u = z / 8 := ⟨_, rfl⟩
      have u1 : (z : Int).tdiv 8 = (u : Int) := by rw [hu]; rfl
      have u2 : (z : Int) / 8 = (u : Int) := by rw [hu]; rfl
      have u0 : (0 : Int) ≤ (u : Int) := by omega
      have u9 : (u : Int) ≤ 100 := by omega
      have wu : IntKind.i64.wrap (u : Int) = (u : Int) := by rw [IntKind.wrap_i64]; omega
      have wu2 : IntKind.i64.wrap ((u : Int) + 2) = (u : Int) + 2 := by rw [IntKind.wrap_i64]; omega
      have CL := Lib.hid (f_len p3.fresh)
      rw [← ez] at CL
      have CC := Lib.hid (f_chunks p3.fresh)
      rw [← ez, ← hu] at CC
      clear p3 ez hl3 PL hu
      go_wp2_with (first
        | (go_at_call 10; with_reducible refine CL.out.mono ?_; rintro e w4 ⟨rfl, rfl⟩)
        | (go_at_call 11; with_reducible refine CC.out.mono ?_; rintro e w5 ⟨⟨y, rfl, hy⟩, rfl⟩; have y0 : (0 : Int) ≤ (y : Int) := (by omega); have y1 : (y : Int) ≤ (u : Int) + 2 := (by omega); have y2 : decide ((u : Int) + 2 < (y : Int)) = false := (decide_eq_false (by omega)); have y3 : decide ((y : Int) < 0) = false := (decide_eq_false (by omega)))
        | fail)
      go_roundw
      case rel => exact ⟨j + 1, l3, g3, o3, c3, by have := LT.out; omega, by have := LT.out; omega, by have := HL.out; have := J.out; omega, by rw [← LZ.out], by go_num, P3.out⟩
      case measure => have := LT.out; simp [RowKit.intOf]; omega
    · by_cases ge : N ≤ j
      · have ge' : (N : Int) ≤ (j : Int) := by omega
        clear lt ge
        go_wp2_with fail
        go_at_call 7
        with_reducible refine (told_any _).mono ?_
        rintro e w3 ⟨rfl, hb3⟩
        have P3 := Lib.hid (P.out.keep hb3)
        clear hb3
        have CA := Lib.hid (f_all P3.out.fresh (by have := LM.out; omega))
        rw [← LM.out] at CA
        go_wp2_with fail
        go_at_call 13
        with_reducible refine CA.out.mono ?_
        rintro e w4 ⟨A4, c4, rfl, it4, hb4⟩
        have P4 := Lib.hid (P3.out.keep hb4)
        have TX : Hid (Calls Try.prog 12 #[.slice A4 m c4, .slice (some ⟨g, o, none⟩) m cc] w4 fun e w' => e = .returned (.bool true) ∧ Below w4.heap.size w4 w') := by
          have := texts_any w4 A4 (some ⟨g, o, none⟩) l l c4 cc it4 P4.out.tx
          rwa [decide_eq_true rfl, ← LM.out] at this
        clear it4 hb4
        go_wp2_with fail
        go_at_call 12
        with_reducible refine TX.out.mono ?_
        rintro e w5 ⟨rfl, hb5⟩
        have P5 := Lib.hid (P4.out.keep hb5)
        clear hb5
        go_wp2_with fail
        go_ret
        exact ⟨rfl, P5.out.bel⟩
      · have j1 : (j : Int) < (N : Int) := by omega
        have j2 : (100 : Int) ≤ (j : Int) := by omega
        clear lt ge
        go_wp2_with fail
        go_at_call 7
        with_reducible refine (told_any _).mono ?_
        rintro e w3 ⟨rfl, hb3⟩
        have P3 := Lib.hid (P.out.keep hb3)
        clear hb3
        have CA := Lib.hid (f_all P3.out.fresh (by have := LM.out; omega))
        rw [← LM.out] at CA
        go_wp2_with fail
        go_at_call 13
        with_reducible refine CA.out.mono ?_
        rintro e w4 ⟨A4, c4, rfl, it4, hb4⟩
        have P4 := Lib.hid (P3.out.keep hb4)
        have TX : Hid (Calls Try.prog 12 #[.slice A4 m c4, .slice (some ⟨g, o, none⟩) m cc] w4 fun e w' => e = .returned (.bool true) ∧ Below w4.heap.size w4 w') := by
          have := texts_any w4 A4 (some ⟨g, o, none⟩) l l c4 cc it4 P4.out.tx
          rwa [decide_eq_true rfl, ← LM.out] at this
        clear it4 hb4
        go_wp2_with fail
        go_at_call 12
        with_reducible refine TX.out.mono ?_
        rintro e w5 ⟨rfl, hb5⟩
        have P5 := Lib.hid (P4.out.keep hb5)
        clear hb5
        go_wp2_with fail
        go_ret
        exact ⟨rfl, P5.out.bel⟩
end Go.Proofs.Yteghokakjonblaa
