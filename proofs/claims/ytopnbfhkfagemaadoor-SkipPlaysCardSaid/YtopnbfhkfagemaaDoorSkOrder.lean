/- The law SkipOrder: ranks, places and scores go together. -/
import Derived.Test.YtopnbfhkfagemaaDoorSkCmp
import Derived.BigQuiet
import Derived.BigRegion
import Derived.Deep.RegionHeld3
import Derived.Deep.RegionWith
namespace Go.Proofs.YtopnbfhkfagemaaDoor
open Go.RowKit
set_option linter.unusedVariables false
theorem foldP_mem {l : List SkM.E} : ∀ y ∈ foldP l, y ∈ l := by
  suffices ∀ (l m : List SkM.E), ∀ y ∈ l.foldl (fun m a => SkM.put m a.1 a.2) m, y ∈ m ∨ y ∈ l by
    intro y hy
    rcases this l [] y hy with h | h
    · cases h
    · exact h
  intro l
  induction l with
  | nil => intro m y hy; exact .inl hy
  | cons a r ih =>
    intro m y hy
    rcases ih _ y hy with h | h
    · rcases SkM.put_mem.1 h with h | ⟨h, -⟩
      · exact .inr (by rw [h]; exact List.mem_cons_self)
      · exact .inl h
    · exact .inr (List.mem_cons_of_mem _ h)
theorem get_at {m : List SkM.E} (ok : SkM.Ok m) (i : Nat) (h : i < m.length) : SkM.get m m[i].1 = some m[i].2 := (SkM.get_some ok.names).2 (List.getElem_mem h)
theorem rank_is {m : List SkM.E} (ok : SkM.Ok m) (i : Nat) (h : i < m.length) : SkM.rank m m[i].1 = i := by
  have e : m = m.take i ++ (m[i].1, m[i].2) :: m.drop (i + 1) := by
    have := List.take_append_drop i m
    rw [List.drop_eq_getElem_cons h] at this
    exact this.symm
  have nn := ok.names
  rw [e] at nn
  have := rank_at nn
  rw [← e] at this
  rw [this, List.length_take]
  omega
theorem while_le (x : SkM.E) : ∀ a b : List SkM.E, ((a ++ x :: b).takeWhile fun a => decide (a.2 < x.2)).length ≤ a.length
  | [], b => by simp
  | y :: r, b => by
    rw [List.cons_append, List.takeWhile_cons]
    split
    · have := while_le x r b
      rw [List.length_cons, List.length_cons]; omega
    · simp
theorem below_le {m : List SkM.E} (ok : SkM.Ok m) (i : Nat) (h : i < m.length) : (m.takeWhile fun a => decide (a.2 < m[i].2)).length ≤ i := by
  have e : m = m.take i ++ m[i] :: m.drop (i + 1) := by
    have := List.take_append_drop i m
    rw [List.drop_eq_getElem_cons h] at this
    exact this.symm
  have := while_le m[i] (m.take i) (m.drop (i + 1))
  rw [← e, List.length_take] at this
  omega
theorem below_drewN (B : Nat) (w : World) (n : Nat) : Below B w (w.drewN n) := ⟨rfl, rfl, rfl, Nat.le_refl _, fun _ _ => rfl⟩
set_option maxRecDepth 20000 in
theorem order_long (w : World) (tz : Tz w) (A : Option Addr) (n c : Nat) (h : 100 < n) :
    Calls Tryd.prog 4 #[.slice A n c] w fun e w' => e = .returned (.bool true) ∧ Below w.heap.size w w' := by
  have h1 : (100 : Int) < (n : Int) := by omega
  have TZ := Lib.hid tz
  clear h tz
  go_enter Tryd.func4, Tryd.ntmps4
  go_wp2_with fail
  go_at_call 7
  refine (told_any _ TZ.out).mono ?_
  rintro e w' ⟨rfl, hb⟩
  go_wp2_with fail
  go_ret
  exact ⟨rfl, hb⟩
set_option maxRecDepth 20000 in
set_option maxHeartbeats 4000000 in
theorem order_walk (w : World) (tz : Tz w) (A : Option Addr) (l : List SkM.E) (n c : Nat) (hn : l.length = n) (hrow : SList w (.slice A n c) l) (h9 : n ≤ 100) (hnm : ∀ y ∈ l, y.1.length ≤ lim ∧ (Lit.int .i64 y.2).wf = true) :
    Calls Tryd.prog 4 #[.slice A n c] w fun e w' => e = .returned (.bool true) ∧ Below w.heap.size w w' := by
  have TZ := Lib.hid tz
  have OF := Lib.hid (of_any w tz A l n c hn hrow h9 fun y hy => (hnm y hy).1)
  obtain ⟨m, hm⟩ : ∃ m, foldP l = m := ⟨_, rfl⟩
  rw [hm] at OF
  have HMW : Hid (∀ y ∈ m, y.1.length ≤ lim ∧ -9223372036854775808 ≤ y.2) := fun y hy => by
    rw [← hm] at hy
    have := hnm y (foldP_mem y hy)
    refine ⟨this.1, ?_⟩
    have := this.2
    simp only [Lit.wf, Bool.and_eq_true, decide_eq_true_eq] at this
    exact this.1
  have HM9 : Hid (m.length ≤ 100) := by show _ ≤ _; rw [← hm]; have := foldP_len l; omega
  have n9 : (n : Int) ≤ 100 := by omega
  clear tz hrow hnm hm hn h9
  go_enter Tryd.func4, Tryd.ntmps4
  go_wp2_with fail
  go_at_call 8
  refine OF.out.mono ?_
  rintro e w1 ⟨p, rfl, h1⟩
  have H1 := Lib.hid h1
  have OK := Lib.hid h1.ok
  clear h1 OF
  go_wp2_with fail
  go_at_call 17
  obtain ⟨⟨G, hr, hg⟩, -⟩ := H1.out
  refine (rall hr).mono ?_
  rintro e w2 ⟨⟨v, rfl, hs⟩, hb2⟩
  have H2 := Lib.hid (H1.out.keep hb2)
  obtain ⟨A2, c2, rfl, -, -, hcells⟩ := hs
  have HC := Lib.hid hcells
  obtain ⟨N, hN⟩ : ∃ N, m.length = N := ⟨_, rfl⟩
  have HN := Lib.hid hN
  rw [hN]
  have N9 : (N : Int) ≤ 100 := by have := HM9.out; omega
  have N0 : (0 : Int) ≤ (N : Int) := by omega
  clear hr hg hb2 hcells H1 hN
  go_wp2_with fail
  go_at_call 14
  obtain ⟨⟨G, hr, hg⟩, -⟩ := H2.out
  refine (rlen hr).mono ?_
  rintro e w3 ⟨rfl, hb3⟩
  have H3 := Lib.hid (H2.out.keep hb3)
  have B23 := Lib.hid hb3
  rw [HN.out]
  clear hr hg hb3
  go_wp2_with fail
  go_loopw [5] (fun v wr => ∃ i : Nat, i ≤ N ∧ v = .int .i64 (i : Int) ∧ SSt w wr p m ∧ Below w2.heap.size w2 wr) (fun v _ => N - (intOf v).toNat)
  case atStart => exact ⟨0, Nat.zero_le _, rfl, H3.out, B23.out⟩
  case round =>
    obtain ⟨i, hi, rfl, hst, hbw⟩ := hrel
    have HST := Lib.hid hst
    have BW := Lib.hid hbw
    have i0 : (0 : Int) ≤ (i : Int) := by omega
    clear H3 B23 hst hbw
    by_cases hlt : i < N
    · have i1 : (i : Int) < (N : Int) := by omega
      have hil : i < m.length := by rw [HN.out]; exact hlt
      obtain ⟨a, rfl, ha, e0, e1⟩ := HC.out i hil
      have gt := get_at OK.out i hil
      have rk := rank_is OK.out i hil
      have bl := below_le OK.out i hil
      have nml := (HMW.out _ (List.getElem_mem hil)).1
      obtain ⟨s, hs⟩ : ∃ s : ByteArray, (⟨m[i].1.toArray⟩ : ByteArray) = s := ⟨_, rfl⟩
      obtain ⟨v, hv⟩ : ∃ v, m[i].2 = v := ⟨_, rfl⟩
      have sd : s.data.toList = m[i].1 := by rw [← hs]
      have SZ : Hid (s.size ≤ maxLen) := Nat.le_trans (by have : s.data.toList.length ≤ lim := by rw [sd]; exact nml
                                                          exact this) lim_le
      rw [hs] at e0
      rw [hv] at e1 gt bl
      rw [← sd] at gt rk
      have CELL : Hid (∀ W, Below w2.heap.size w2 W → W.cell? (a.add (i * 2)) = some (.string s) ∧ W.cell? ⟨(a.add (i * 2)).block, (a.add (i * 2)).off + 1, none⟩ = some (.int .i64 v)) := fun W hW =>
        ⟨(hW.cell (p := a.add (i * 2)) (by rw [add_block]; exact ha)).trans e0, (hW.cell (p := ⟨(a.add (i * 2)).block, (a.add (i * 2)).off + 1, none⟩) (by show (a.add (i * 2)).block < _; rw [add_block]; exact ha)).trans e1⟩
      have RK : Hid ((.tuple #[.int .i64 (if (SkM.get m s.data.toList).isSome then (SkM.rank m s.data.toList : Int) else 0), .bool (SkM.get m s.data.toList).isSome] : Value) = .tuple #[.int .i64 (i : Int), .bool true]) := by show _ = _; rw [gt, rk]; rfl
      have SC : Hid ((.tuple #[.int .i64 ((SkM.get m s.data.toList).getD 0), .bool (SkM.get m s.data.toList).isSome] : Value) = .tuple #[.int .i64 v, .bool true]) := by show _ = _; rw [gt]; rfl
      have AT : Hid (∀ r : Int, idx m.length r = (i : Int) → ∀ W, SSt w W p m → -9223372036854775808 ≤ r → r ≤ 9223372036854775807 → Calls Tryd.prog 20 #[.pointer (some p), .int .i64 r] W fun e w' => e = .returned (.tuple #[.agg #[.string s, .int .i64 v], .bool true]) ∧ Below W.heap.size W w') := fun r hr W hW r0 r1 => by
        obtain ⟨⟨G, hsr, hg⟩, -⟩ := hW
        refine (rat hsr r r0 r1).mono ?_
        rintro e w' ⟨rfl, hb⟩
        refine ⟨?_, hb⟩
        rw [dif_pos ⟨by omega, by omega⟩]
        have k : (idx m.length r).toNat = i := by omega
        simp only [k, hs, hv]
      have BLW : Hid (∀ W, SSt w W p m → Calls Tryd.prog 21 #[.pointer (some p), .int .i64 v] W fun e w' => e = .returned (.int .i64 (((m.takeWhile fun a => decide (a.2 < v)).length : Nat) : Int)) ∧ Below W.heap.size W w') := fun W hW => by
        obtain ⟨⟨G, hsr, hg⟩, -⟩ := hW
        exact rbelow hsr v
      obtain ⟨T, hT⟩ : ∃ T, (m.takeWhile fun a => decide (a.2 < v)).length = T := ⟨_, rfl⟩
      rw [hT] at BLW bl
      have t1 : (T : Int) ≤ (i : Int) := by omega
      have t0 : (0 : Int) ≤ (T : Int) := by omega
      have NX := Lib.hid hlt
      have SO : Hid (∀ j, j + 1 = i → ∀ (hj : j < m.length), SkM.lt m[j] (s.data.toList, v)) := fun j ej hj => by
        subst ej
        have := List.pairwise_iff_getElem.1 OK.out.sorted j (j + 1) hj hil (Nat.lt_succ_self _)
        rw [sd, ← hv]
        exact this
      obtain ⟨e0, e1⟩ := CELL.out wr BW.out
      clear hil ha gt rk bl nml hT hlt hi hs hv sd
      go_wp2_with fail
      go_at_call 18
      obtain ⟨⟨G, hr, hg⟩, -⟩ := HST.out
      refine (rrank hr s SZ.out).mono ?_
      rintro e w4 ⟨rfl, hb4⟩
      have H4 := Lib.hid (HST.out.keep hb4)
      have B4 := Lib.hid (below_then BW.out hb4)
      rw [RK.out]
      clear hr hg hb4 HST BW e0 e1
      obtain ⟨e0, e1⟩ := CELL.out w4 B4.out
      go_wp2_with fail
      go_at_call 19
      obtain ⟨⟨G, hr, hg⟩, -⟩ := H4.out
      refine (rscore hr s SZ.out).mono ?_
      rintro e w5 ⟨rfl, hb5⟩
      have H5 := Lib.hid (H4.out.keep hb5)
      have B5 := Lib.hid (below_then B4.out hb5)
      rw [SC.out]
      clear hr hg hb5 H4 B4 e0 e1
      go_wp2_with fail
      go_at_call 20
      refine (AT.out (i : Int) (by unfold idx; rw [if_neg (by omega)]) w5 H5.out (by omega) (by omega)).mono ?_
      rintro e w6 ⟨rfl, hb6⟩
      have H6 := Lib.hid (H5.out.keep hb6)
      have B6 := Lib.hid (below_then B5.out hb6)
      clear hb6 H5 B5
      go_wp2_with fail
      obtain ⟨w7, hw7⟩ : ∃ w7, w6.alloc (.cells #[.string s, .int .i64 v] 30) = w7 := ⟨_, rfl⟩
      have al7 : Below w6.heap.size w6 w7 := by rw [← hw7]; exact (Below.refl _ w6).alloc (Nat.le_refl _) _
      obtain ⟨b1, hb1⟩ : ∃ b1, w6.heap.size = b1 := ⟨_, rfl⟩
      have x0 : w7.cell? ⟨b1, 0, none⟩ = some (.string s) := by rw [← hw7, ← hb1, World.cell?_alloc_new]; rfl
      have x1 : w7.cell? ⟨b1, 1, none⟩ = some (.int .i64 v) := by rw [← hw7, ← hb1, World.cell?_alloc_new]; rfl
      have H7 := Lib.hid (H6.out.keep al7)
      have B7 := Lib.hid (below_then B6.out al7)
      have X0 := Lib.hid x0
      have X1 := Lib.hid x1
      rw [hw7, hb1]
      clear hw7 al7 hb1 x0 x1 H6 B6
      go_at_call 20
      refine (AT.out ((i : Int) - (N : Int)) (by unfold idx; rw [if_pos (by omega), HN.out]; omega) w7 H7.out (by omega) (by omega)).mono ?_
      rintro e w8 ⟨rfl, hb8⟩
      have H8 := Lib.hid (H7.out.keep hb8)
      have B8 := Lib.hid (below_then B7.out hb8)
      have Y0 : Hid (w8.cell? ⟨b1, 0, none⟩ = some (.string s)) := (hb8.cell (p := ⟨b1, 0, none⟩) (cell_in X0.out)).trans X0.out
      have Y1 : Hid (w8.cell? ⟨b1, 1, none⟩ = some (.int .i64 v)) := (hb8.cell (p := ⟨b1, 1, none⟩) (cell_in X1.out)).trans X1.out
      clear hb8 H7 B7 X0 X1
      go_wp2_with fail
      obtain ⟨w9, hw9⟩ : ∃ w9, w8.alloc (.cells #[.string s, .int .i64 v] 30) = w9 := ⟨_, rfl⟩
      have al9 : Below w8.heap.size w8 w9 := by rw [← hw9]; exact (Below.refl _ w8).alloc (Nat.le_refl _) _
      obtain ⟨b2, hb2⟩ : ∃ b2, w8.heap.size = b2 := ⟨_, rfl⟩
      have z0 : w9.cell? ⟨b2, 0, none⟩ = some (.string s) := by rw [← hw9, ← hb2, World.cell?_alloc_new]; rfl
      have z1 : w9.cell? ⟨b2, 1, none⟩ = some (.int .i64 v) := by rw [← hw9, ← hb2, World.cell?_alloc_new]; rfl
      have y0 : w9.cell? ⟨b1, 0, none⟩ = some (.string s) := (al9.cell (p := ⟨b1, 0, none⟩) (cell_in Y0.out)).trans Y0.out
      have y1 : w9.cell? ⟨b1, 1, none⟩ = some (.int .i64 v) := (al9.cell (p := ⟨b1, 1, none⟩) (cell_in Y1.out)).trans Y1.out
      have H9 := Lib.hid (H8.out.keep al9)
      have B9 := Lib.hid (below_then B8.out al9)
      rw [hw9, hb2]
      have S0 : Hid (∀ W, Below w9.heap.size w9 W → Below w9.heap.size w9 W ∧ W.cell? (a.add (i * 2)) = some (.string s) ∧ W.cell? ⟨(a.add (i * 2)).block, (a.add (i * 2)).off + 1, none⟩ = some (.int .i64 v) ∧ W.cell? ⟨b1, 0, none⟩ = some (.string s) ∧ W.cell? ⟨b1, 1, none⟩ = some (.int .i64 v) ∧ W.cell? ⟨b2, 0, none⟩ = some (.string s) ∧ W.cell? ⟨b2, 1, none⟩ = some (.int .i64 v)) := fun W hW => by
        obtain ⟨c0, c1⟩ := CELL.out W (below_then B9.out hW)
        exact ⟨hW, c0, c1, (hW.cell (p := ⟨b1, 0, none⟩) (cell_in y0)).trans y0, (hW.cell (p := ⟨b1, 1, none⟩) (cell_in y1)).trans y1, (hW.cell (p := ⟨b2, 0, none⟩) (cell_in z0)).trans z0, (hW.cell (p := ⟨b2, 1, none⟩) (cell_in z1)).trans z1⟩
      have S1 : Hid (Below w9.heap.size w9 w9.drew ∧ w9.drew.cell? (a.add (i * 2)) = some (.string s) ∧ w9.drew.cell? ⟨(a.add (i * 2)).block, (a.add (i * 2)).off + 1, none⟩ = some (.int .i64 v) ∧ w9.drew.cell? ⟨b1, 0, none⟩ = some (.string s) ∧ w9.drew.cell? ⟨b1, 1, none⟩ = some (.int .i64 v) ∧ w9.drew.cell? ⟨b2, 0, none⟩ = some (.string s) ∧ w9.drew.cell? ⟨b2, 1, none⟩ = some (.int .i64 v)) := S0.out _ ((Below.refl _ w9).drew)
      have KEEP : Hid (∀ W W', Below W.heap.size W W' → (Below w9.heap.size w9 W ∧ W.cell? (a.add (i * 2)) = some (.string s) ∧ W.cell? ⟨(a.add (i * 2)).block, (a.add (i * 2)).off + 1, none⟩ = some (.int .i64 v) ∧ W.cell? ⟨b1, 0, none⟩ = some (.string s) ∧ W.cell? ⟨b1, 1, none⟩ = some (.int .i64 v) ∧ W.cell? ⟨b2, 0, none⟩ = some (.string s) ∧ W.cell? ⟨b2, 1, none⟩ = some (.int .i64 v)) → (Below w9.heap.size w9 W' ∧ W'.cell? (a.add (i * 2)) = some (.string s) ∧ W'.cell? ⟨(a.add (i * 2)).block, (a.add (i * 2)).off + 1, none⟩ = some (.int .i64 v) ∧ W'.cell? ⟨b1, 0, none⟩ = some (.string s) ∧ W'.cell? ⟨b1, 1, none⟩ = some (.int .i64 v) ∧ W'.cell? ⟨b2, 0, none⟩ = some (.string s) ∧ W'.cell? ⟨b2, 1, none⟩ = some (.int .i64 v))) := fun W W' hb h => S0.out _ (below_then h.1 hb)
      have BC : Hid (∀ W, (Below w9.heap.size w9 W ∧ W.cell? (a.add (i * 2)) = some (.string s) ∧ W.cell? ⟨(a.add (i * 2)).block, (a.add (i * 2)).off + 1, none⟩ = some (.int .i64 v) ∧ W.cell? ⟨b1, 0, none⟩ = some (.string s) ∧ W.cell? ⟨b1, 1, none⟩ = some (.int .i64 v) ∧ W.cell? ⟨b2, 0, none⟩ = some (.string s) ∧ W.cell? ⟨b2, 1, none⟩ = some (.int .i64 v)) → Calls Tryd.prog 21 #[.pointer (some p), .int .i64 v] W fun e w' => e = .returned (.int .i64 (T : Int)) ∧ Below W.heap.size W w') := fun W h => BLW.out W (H9.out.keep h.1)
      have ne := run_neq_same
      clear hw9 al9 hb2 z0 z1 y0 y1 Y0 Y1 H8 B8
      go_region_held3 (fun W => Below w9.heap.size w9 W ∧ W.cell? (a.add (i * 2)) = some (.string s) ∧ W.cell? ⟨(a.add (i * 2)).block, (a.add (i * 2)).off + 1, none⟩ = some (.int .i64 v) ∧ W.cell? ⟨b1, 0, none⟩ = some (.string s) ∧ W.cell? ⟨b1, 1, none⟩ = some (.int .i64 v) ∧ W.cell? ⟨b2, 0, none⟩ = some (.string s) ∧ W.cell? ⟨b2, 1, none⟩ = some (.int .i64 v)) (first | exact S1.out | exact KEEP.out _ _ (by assumption) (by assumption) | assumption) (first
        | (go_at_call 21; with_reducible refine (BC.out _ (by assumption)).mono ?_; rintro e w' ⟨rfl, hb⟩))
      have SE : Below w9.heap.size w9 w' ∧ w'.cell? (a.add (i * 2)) = some (.string s) ∧ w'.cell? ⟨(a.add (i * 2)).block, (a.add (i * 2)).off + 1, none⟩ = some (.int .i64 v) ∧ w'.cell? ⟨b1, 0, none⟩ = some (.string s) ∧ w'.cell? ⟨b1, 1, none⟩ = some (.int .i64 v) ∧ w'.cell? ⟨b2, 0, none⟩ = some (.string s) ∧ w'.cell? ⟨b2, 1, none⟩ = some (.int .i64 v) := by assumption
      have HE := Lib.hid (H9.out.keep SE.1)
      have BE := Lib.hid (below_then B9.out SE.1)
      obtain ⟨-, c0, c1, -⟩ := SE
      clear S0 S1 KEEP BC BLW AT SC RK H9 B9 ne
      by_cases ip : 0 < i
      · obtain ⟨j, hj⟩ : ∃ j, j + 1 = i := ⟨i - 1, by omega⟩
        have ij : decide ((0 : Int) < (i : Int)) = true := decide_eq_true (by omega)
        have ijn : decide (0 < i) = true := decide_eq_true ip
        have hjl : j < m.length := by have := NX.out; have := HN.out; omega
        obtain ⟨a', ea, ha', f0, f1⟩ := HC.out j hjl
        injection ea with ea
        subst ea
        have lt := SO.out j hj hjl
        obtain ⟨s', hs'⟩ : ∃ s' : ByteArray, (⟨m[j].1.toArray⟩ : ByteArray) = s' := ⟨_, rfl⟩
        obtain ⟨v', hv'⟩ : ∃ v', m[j].2 = v' := ⟨_, rfl⟩
        have sd' : s'.data.toList = m[j].1 := by rw [← hs']
        rw [hs'] at f0
        rw [hv'] at f1
        replace f0 : w'.cell? (a.add (j * 2)) = some (.string s') := by rw [BE.out.cell (p := a.add (j * 2)) (by rw [add_block]; exact ha')]; exact f0
        replace f1 : w'.cell? ⟨(a.add (j * 2)).block, (a.add (j * 2)).off + 1, none⟩ = some (.int .i64 v') := by rw [BE.out.cell (p := ⟨(a.add (j * 2)).block, (a.add (j * 2)).off + 1, none⟩) (by show (a.add (j * 2)).block < _; rw [add_block]; exact ha')]; exact f1
        have lt' : v' < v ∨ (v' = v ∧ s'.data.toList < s.data.toList) := by
          rcases lt with h | ⟨h, k⟩
          · exact .inl (by rw [← hv']; exact h)
          · exact .inr ⟨by rw [← hv']; exact h, by rw [sd']; exact k⟩
        have e1w : IntKind.i64.wrap ((i : Int) - 1) = (j : Int) := by simp [IntKind.wrap, IntKind.bits, IntKind.signed]; omega
        have e2w : (i : Int) - 1 = (j : Int) := by omega
        have jN : (j : Int) < (N : Int) := by omega
        have j0 : (0 : Int) ≤ (j : Int) := by omega
        clear lt hs' hv' sd' ha' hjl hj ip
        rcases lt' with h | ⟨h, k⟩
        · have d1 : decide (v < v') = false := decide_eq_false (by omega)
          have d2 : (v' == v) = false := by simp; omega
          have d3 : ¬ v' = v := by omega
          go_wp2_with fail
          go_quiet (fail)
          go_wp2_with fail
          refine ⟨⟨i + 1, NX.out, by go_num, ?_, ?_⟩, by have := NX.out; simp [intOf]; omega⟩
          · exact HE.out.keep (below_drewN _ _ _)
          · exact BE.out.trans (below_drewN _ _ _)
        · subst h
          have lss := less_is s' s
          have kt : decide (s'.data.toList < s.data.toList) = true := decide_eq_true k
          rw [kt] at lss
          clear k kt
          go_wp2_with fail
          go_quiet (fail)
          go_wp2_with fail
          refine ⟨⟨i + 1, NX.out, by go_num, ?_, ?_⟩, by have := NX.out; simp [intOf]; omega⟩
          · exact HE.out.keep (below_drewN _ _ _)
          · exact BE.out.trans (below_drewN _ _ _)
      · have ij : (i : Int) ≤ 0 := by omega
        have ij2 : decide ((0 : Int) < (i : Int)) = false := decide_eq_false (by omega)
        have ijn : decide (0 < i) = false := decide_eq_false ip
        clear ip
        go_wp2_with fail
        go_quiet (fail)
        go_wp2_with fail
        refine ⟨⟨i + 1, NX.out, by go_num, ?_, ?_⟩, by have := NX.out; simp [intOf]; omega⟩
        · exact HE.out.keep (below_drewN _ _ _)
        · exact BE.out.trans (below_drewN _ _ _)
    · have i1 : (N : Int) ≤ (i : Int) := by omega
      clear hlt hi
      go_wp2_with fail
      go_at_call 7
      refine (told_any _ (TZ.out.below HST.out.below)).mono ?_
      rintro e wa ⟨rfl, hba⟩
      have SA := Lib.hid (HST.out.keep hba)
      clear hba
      go_wp2_with fail
      go_at_call 21
      obtain ⟨⟨G, hr, hg⟩, -⟩ := SA.out
      refine (rbelow hr (-9223372036854775808)).mono ?_
      rintro e wb ⟨rfl, hbb⟩
      have SB := Lib.hid (SA.out.keep hbb)
      have z : (m.takeWhile fun a => decide (a.2 < (-9223372036854775808 : Int))).length = 0 := by
        cases m with
        | nil => rfl
        | cons y r =>
          have := (HMW.out y List.mem_cons_self).2
          rw [List.takeWhile_cons, if_neg (by simp; omega)]
          rfl
      rw [z]
      clear hbb hr hg z
      go_wp2_with fail
      go_ret
      exact ⟨rfl, SB.out.below⟩
end Go.Proofs.YtopnbfhkfagemaaDoor
