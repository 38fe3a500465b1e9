/- Package tree: Deep (printed by mktd.py). -/
import Derived.Test.YtbcjpnmakcmndaaGreatDoorKu
import Derived.Deep.RegionHeld3
import Derived.Laws.Small
namespace Go.Proofs.YtbcjpnmakcmndaaGreatDoor
open Go.RowKit PrM
set_option linter.unusedVariables false
set_option linter.unusedSimpArgs false
/-- 15.1: how deep, as a machine reckons it. -/
def PrM.X.deep : X → Int
 | .nil => 0
 | .cons h t => max h.deep t.deep
 | .e _ _ _ _ _ l fv => wrap64 (1 + max l.deep fv.deep)
 | .f _ b => if b.len = 0 then 0 else wrap64 (1 + b.deep)
 | .s _ _ _ l b => max l.deep b.deep
 | .blk l => if l.len = 0 then 0 else wrap64 (1 + l.deep)
def deepL (l : List X) : Int := l.foldl (fun m x => max m x.deep) 0
theorem deepL_nil : deepL [] = 0 := rfl
theorem deepL_take (l : List X) (i : Nat) (y : X) (h : l[i]? = some y) : deepL (l.take (i + 1)) = max (deepL (l.take i)) y.deep := by
 unfold deepL
 rw [List.take_add_one, h, List.foldl_append]
 rfl
theorem fold_max (l : List X) : ∀ a : Int, 0 ≤ a → l.foldl (fun m x => max m x.deep) a = max a (deepL l) := by
 induction l with
 | nil => intro a h; show a = max a 0; omega
 | cons x r ih =>
  intro a h
  show r.foldl (fun m x => max m x.deep) (max a x.deep) = max a (r.foldl (fun m x => max m x.deep) (max 0 x.deep))
  rw [ih _ (by omega), ih (max 0 x.deep) (by omega)]
  omega
theorem deepL_cons (x : X) (r : List X) : deepL (x :: r) = max (max 0 x.deep) (deepL r) := fold_max r _ (show 0 ≤ max 0 x.deep by omega)
theorem deepL_pos (l : List X) : 0 ≤ deepL l := by
 cases l with
 | nil => exact Int.le_refl 0
 | cons x r => rw [deepL_cons]; omega
theorem row_deep {w : World} {P : Nat → Prop} : ∀ (x : X) (z : Nat) (A : Option Addr) (off : Nat), (Rd w P x).row z A off → x.deep = deepL x.elems
 | .nil, _, _, _, _ => rfl
 | .cons a t, z, A, off, h => by
  show max a.deep t.deep = deepL (a :: t.elems)
  rw [deepL_cons, row_deep t z A (off + z) h.2]
  have := deepL_pos t.elems
  omega
 | .e .., _, _, _, h => h.elim
 | .f .., _, _, _, h => h.elim
 | .s .., _, _, _, h => h.elim
 | .blk _, _, _, _, h => h.elim
/-- What a depth answers. -/
def DR (c : Int) (w : World) (e : Ending) (w' : World) : Prop := e = .returned (.int .i64 c) ∧ Below w.heap.size w w'
theorem run_mx (f b : Int) : ∀ (W : World) (ts : Array TypeId) (t : TypeId), (Builtin.max_ ts t #[.int .i64 f, .int .i64 b]).run Tryz.prog W = .ok (.int .i64 (max f b)) W := fun W ts t => by
 rw [run_max_int2]
 have e : (if b > f then b else f) = max f b := by split <;> omega
 rw [e]
set_option maxRecDepth 20000 in
set_option maxHeartbeats 4000000 in
theorem largest_e (w : World) (P : Nat → Prop) (x : X) (A : Option Addr) (n c : Nat) (h : Sl x.len (Rd w P x).row 7 (.slice A n c)) (hb : n ≤ 100000)
  (H : ∀ y ∈ x.elems, ∀ w1 (v0 v1 v2 v3 v4 v5 v6 : Value), (Rd w1 P y).cells #[v0, v1, v2, v3, v4, v5, v6] → Calls Tryz.prog 73 #[.agg #[v0, v1, v2, v3, v4, v5, v6]] w1 (DR y.deep w1)) :
  Calls Tryz.prog 72 #[.slice A n c, .func (.func 73) #[] #[]] w (DR x.deep w) := by
 have HX := Lib.hid h
 have HH := Lib.hid H
 have HN := Lib.hid (Sl.len h).1
 have EX : X.deep x = deepL x.elems := row_deep x 7 A 0 (by obtain ⟨A', c', e, -, -, hr⟩ := h; injection e with e1; subst e1; exact hr)
 have HEX := Lib.hid EX
 have n0 : (0 : Int) ≤ (n : Int) := by omega
 have n1 : (n : Int) ≤ 100000 := by omega
 clear h H hb EX
 go_enter Tryz.func72, Tryz.ntmps72
 go_wp2_with fail
 go_loopw [5, 7, 10] (fun u5 u7 u10 wr => ∃ (i : Nat) (v : Value), u5 = .int .i64 (deepL (x.elems.take i)) ∧ u7 = v ∧ u10 = .int .i64 (i : Int) ∧ i ≤ n ∧ Below w.heap.size w wr) (fun _ _ u10 _ => (n : Int).toNat - (intOf u10).toNat)
 case atStart => exact ⟨0, undef, by rw [List.take_zero, deepL_nil], rfl, rfl, Nat.zero_le _, Below.refl _ _⟩
 case round =>
  obtain ⟨i, v, rfl, rfl, rfl, hi, hbl⟩ := hrel
  have HB := Lib.hid hbl
  have i0 : (0 : Int) ≤ (i : Int) := by omega
  have wi : wrap64 ((i : Int) + 1) = (i : Int) + 1 := by unfold wrap64; omega
  clear hbl
  by_cases hlt : i < n
  ·obtain ⟨p, y, v0, v1, v2, v3, v4, v5, v6, rfl, hy, ⟨c0, c1, c2, c3, c4, c5, c6⟩, rd⟩ := Sl.at7 (Sl.bel HB.out HX.out) (by rw [← HN.out]; exact hlt)
   have RD := Lib.hid rd
   have HC := Lib.hid (HH.out y (List.mem_of_getElem? hy))
   have HY := Lib.hid (deepL_take x.elems i y hy)
   have hl1 : (i : Int) < (n : Int) := by omega
   have HLT := Lib.hid hlt
   have HBC := Lib.hid (Nat.le_refl wr.heap.size)
   have mx := run_mx (deepL (x.elems.take i)) y.deep
   clear hi hy rd hlt
   go_wp2_with (first
    |(refine wpList_store_row rfl 41 (.tmp 7) (.tmp 13) rfl wr.heap.size #[v0, v1, v2, v3, v4, v5, v6] rfl rfl 41 _ (Blk.new wr Z7 41) sizeE rfl (ones7 (Rd.one_cells _ _ RD.out)) ?_; obtain ⟨w2, hw, bb, K2, ss⟩ := boxT wr #[v0, v1, v2, v3, v4, v5, v6] Z7 41; rw [← hw]; clear hw ss; have HB2 := Lib.hid (HB.out.trans (bb.out.mono HB.out.size)); have RD2 := Lib.hid (Rd.bel bb.out RD.out); obtain ⟨⟨k0, k1, k2, k3, k4, k5, k6⟩, -⟩ := K2.out.seven; clear bb)
    |(refine wp_store_row 41 (.tmp 7) (.tmp 13) rfl wr.heap.size #[v0, v1, v2, v3, v4, v5, v6] rfl rfl 41 _ (Blk.new wr Z7 41) sizeE rfl (ones7 (Rd.one_cells _ _ RD.out)) ?_; obtain ⟨w2, hw, bb, K2, ss⟩ := boxT wr #[v0, v1, v2, v3, v4, v5, v6] Z7 41; rw [← hw]; clear hw ss; have HB2 := Lib.hid (HB.out.trans (bb.out.mono HB.out.size)); have RD2 := Lib.hid (Rd.bel bb.out RD.out); obtain ⟨⟨k0, k1, k2, k3, k4, k5, k6⟩, -⟩ := K2.out.seven; clear bb)
    |(go_at_call 73; refine (HC.out _ v0 v1 v2 v3 v4 v5 v6 RD2.out).mono ?_; rintro e w3 ⟨rfl, b3⟩; have HB3 := Lib.hid (HB2.out.trans (b3.mono HB2.out.size)); clear b3))
   refine ⟨⟨i + 1, _, ?_, rfl, ?_, ?_, ?_⟩, ?_⟩
   ·rw [HY.out]
   ·rfl
   ·have := HLT.out; omega
   ·exact HB3.out
   ·have := HLT.out; simp only [intOf]; omega
  ·have hl1 : ¬ (i : Int) < (n : Int) := by omega
   have e : i = n := by omega
   have HT : x.elems.take i = x.elems := List.take_of_length_le (by rw [elems_len, ← HN.out]; omega)
   have HT := Lib.hid HT
   clear hlt hi e
   go_wp2_with fail
   go_ret
   refine ⟨?_, HB.out⟩
   show Ending.returned (.int .i64 (deepL x.elems)) = .returned (.int .i64 (x.deep))
   rw [HEX.out]
set_option maxRecDepth 20000 in
set_option maxHeartbeats 4000000 in
theorem largest_f (w : World) (P : Nat → Prop) (x : X) (A : Option Addr) (n c : Nat) (h : Sl x.len (Rd w P x).row 2 (.slice A n c)) (hb : n ≤ 100000)
  (H : ∀ y ∈ x.elems, ∀ w1 (v0 v1 : Value), (Rd w1 P y).cells #[v0, v1] → Calls Tryz.prog 122 #[.agg #[v0, v1]] w1 (DR y.deep w1)) :
  Calls Tryz.prog 121 #[.slice A n c, .func (.func 122) #[] #[]] w (DR x.deep w) := by
 have HX := Lib.hid h
 have HH := Lib.hid H
 have HN := Lib.hid (Sl.len h).1
 have EX : X.deep x = deepL x.elems := row_deep x 2 A 0 (by obtain ⟨A', c', e, -, -, hr⟩ := h; injection e with e1; subst e1; exact hr)
 have HEX := Lib.hid EX
 have n0 : (0 : Int) ≤ (n : Int) := by omega
 have n1 : (n : Int) ≤ 100000 := by omega
 clear h H hb EX
 go_enter Tryz.func121, Tryz.ntmps121
 go_wp2_with fail
 go_loopw [5, 7, 10] (fun u5 u7 u10 wr => ∃ (i : Nat) (v : Value), u5 = .int .i64 (deepL (x.elems.take i)) ∧ u7 = v ∧ u10 = .int .i64 (i : Int) ∧ i ≤ n ∧ Below w.heap.size w wr) (fun _ _ u10 _ => (n : Int).toNat - (intOf u10).toNat)
 case atStart => exact ⟨0, undef, by rw [List.take_zero, deepL_nil], rfl, rfl, Nat.zero_le _, Below.refl _ _⟩
 case round =>
  obtain ⟨i, v, rfl, rfl, rfl, hi, hbl⟩ := hrel
  have HB := Lib.hid hbl
  have i0 : (0 : Int) ≤ (i : Int) := by omega
  have wi : wrap64 ((i : Int) + 1) = (i : Int) + 1 := by unfold wrap64; omega
  clear hbl
  by_cases hlt : i < n
  ·obtain ⟨p, y, v0, v1, rfl, hy, ⟨c0, c1⟩, rd⟩ := Sl.at2 (Sl.bel HB.out HX.out) (by rw [← HN.out]; exact hlt)
   have RD := Lib.hid rd
   have HC := Lib.hid (HH.out y (List.mem_of_getElem? hy))
   have HY := Lib.hid (deepL_take x.elems i y hy)
   have hl1 : (i : Int) < (n : Int) := by omega
   have HLT := Lib.hid hlt
   have HBC := Lib.hid (Nat.le_refl wr.heap.size)
   have mx := run_mx (deepL (x.elems.take i)) y.deep
   clear hi hy rd hlt
   go_wp2_with (first
    |(refine wpList_store_row rfl 94 (.tmp 7) (.tmp 13) rfl wr.heap.size #[v0, v1] rfl rfl 94 _ (Blk.new wr Z2 94) sizeF rfl (onesN (Rd.one_cells _ _ RD.out)) ?_; obtain ⟨w2, hw, bb, K2, ss⟩ := boxT wr #[v0, v1] Z2 94; rw [← hw]; clear hw ss; have HB2 := Lib.hid (HB.out.trans (bb.out.mono HB.out.size)); have RD2 := Lib.hid (Rd.bel bb.out RD.out); obtain ⟨⟨k0, k1⟩, -⟩ := K2.out.pair; clear bb)
    |(refine wp_store_row 94 (.tmp 7) (.tmp 13) rfl wr.heap.size #[v0, v1] rfl rfl 94 _ (Blk.new wr Z2 94) sizeF rfl (onesN (Rd.one_cells _ _ RD.out)) ?_; obtain ⟨w2, hw, bb, K2, ss⟩ := boxT wr #[v0, v1] Z2 94; rw [← hw]; clear hw ss; have HB2 := Lib.hid (HB.out.trans (bb.out.mono HB.out.size)); have RD2 := Lib.hid (Rd.bel bb.out RD.out); obtain ⟨⟨k0, k1⟩, -⟩ := K2.out.pair; clear bb)
    |(go_at_call 122; refine (HC.out _ v0 v1 RD2.out).mono ?_; rintro e w3 ⟨rfl, b3⟩; have HB3 := Lib.hid (HB2.out.trans (b3.mono HB2.out.size)); clear b3))
   refine ⟨⟨i + 1, _, ?_, rfl, ?_, ?_, ?_⟩, ?_⟩
   ·rw [HY.out]
   ·rfl
   ·have := HLT.out; omega
   ·exact HB3.out
   ·have := HLT.out; simp only [intOf]; omega
  ·have hl1 : ¬ (i : Int) < (n : Int) := by omega
   have e : i = n := by omega
   have HT : x.elems.take i = x.elems := List.take_of_length_le (by rw [elems_len, ← HN.out]; omega)
   have HT := Lib.hid HT
   clear hlt hi e
   go_wp2_with fail
   go_ret
   refine ⟨?_, HB.out⟩
   show Ending.returned (.int .i64 (deepL x.elems)) = .returned (.int .i64 (x.deep))
   rw [HEX.out]
set_option maxRecDepth 20000 in
set_option maxHeartbeats 4000000 in
theorem largest_s (w : World) (P : Nat → Prop) (x : X) (A : Option Addr) (n c : Nat) (h : Sl x.len (Rd w P x).row 5 (.slice A n c)) (hb : n ≤ 100000)
  (H : ∀ y ∈ x.elems, ∀ w1 (v0 v1 v2 v3 v4 : Value), (Rd w1 P y).cells #[v0, v1, v2, v3, v4] → Calls Tryz.prog 36 #[.agg #[v0, v1, v2, v3, v4]] w1 (DR y.deep w1)) :
  Calls Tryz.prog 35 #[.slice A n c, .func (.func 36) #[] #[]] w (DR x.deep w) := by
 have HX := Lib.hid h
 have HH := Lib.hid H
 have HN := Lib.hid (Sl.len h).1
 have EX : X.deep x = deepL x.elems := row_deep x 5 A 0 (by obtain ⟨A', c', e, -, -, hr⟩ := h; injection e with e1; subst e1; exact hr)
 have HEX := Lib.hid EX
 have n0 : (0 : Int) ≤ (n : Int) := by omega
 have n1 : (n : Int) ≤ 100000 := by omega
 clear h H hb EX
 go_enter Tryz.func35, Tryz.ntmps35
 go_wp2_with fail
 go_loopw [5, 7, 10] (fun u5 u7 u10 wr => ∃ (i : Nat) (v : Value), u5 = .int .i64 (deepL (x.elems.take i)) ∧ u7 = v ∧ u10 = .int .i64 (i : Int) ∧ i ≤ n ∧ Below w.heap.size w wr) (fun _ _ u10 _ => (n : Int).toNat - (intOf u10).toNat)
 case atStart => exact ⟨0, undef, by rw [List.take_zero, deepL_nil], rfl, rfl, Nat.zero_le _, Below.refl _ _⟩
 case round =>
  obtain ⟨i, v, rfl, rfl, rfl, hi, hbl⟩ := hrel
  have HB := Lib.hid hbl
  have i0 : (0 : Int) ≤ (i : Int) := by omega
  have wi : wrap64 ((i : Int) + 1) = (i : Int) + 1 := by unfold wrap64; omega
  clear hbl
  by_cases hlt : i < n
  ·obtain ⟨p, y, v0, v1, v2, v3, v4, rfl, hy, ⟨c0, c1, c2, c3, c4⟩, rd⟩ := Sl.at5 (Sl.bel HB.out HX.out) (by rw [← HN.out]; exact hlt)
   have RD := Lib.hid rd
   have HC := Lib.hid (HH.out y (List.mem_of_getElem? hy))
   have HY := Lib.hid (deepL_take x.elems i y hy)
   have hl1 : (i : Int) < (n : Int) := by omega
   have HLT := Lib.hid hlt
   have HBC := Lib.hid (Nat.le_refl wr.heap.size)
   have mx := run_mx (deepL (x.elems.take i)) y.deep
   clear hi hy rd hlt
   go_wp2_with (first
    |(refine wpList_store_row rfl 34 (.tmp 7) (.tmp 13) rfl wr.heap.size #[v0, v1, v2, v3, v4] rfl rfl 34 _ (Blk.new wr Z5 34) sizeSt rfl (onesN (Rd.one_cells _ _ RD.out)) ?_; obtain ⟨w2, hw, bb, K2, ss⟩ := boxT wr #[v0, v1, v2, v3, v4] Z5 34; rw [← hw]; clear hw ss; have HB2 := Lib.hid (HB.out.trans (bb.out.mono HB.out.size)); have RD2 := Lib.hid (Rd.bel bb.out RD.out); obtain ⟨⟨k0, k1, k2, k3, k4⟩, -⟩ := K2.out.five; clear bb)
    |(refine wp_store_row 34 (.tmp 7) (.tmp 13) rfl wr.heap.size #[v0, v1, v2, v3, v4] rfl rfl 34 _ (Blk.new wr Z5 34) sizeSt rfl (onesN (Rd.one_cells _ _ RD.out)) ?_; obtain ⟨w2, hw, bb, K2, ss⟩ := boxT wr #[v0, v1, v2, v3, v4] Z5 34; rw [← hw]; clear hw ss; have HB2 := Lib.hid (HB.out.trans (bb.out.mono HB.out.size)); have RD2 := Lib.hid (Rd.bel bb.out RD.out); obtain ⟨⟨k0, k1, k2, k3, k4⟩, -⟩ := K2.out.five; clear bb)
    |(go_at_call 36; refine (HC.out _ v0 v1 v2 v3 v4 RD2.out).mono ?_; rintro e w3 ⟨rfl, b3⟩; have HB3 := Lib.hid (HB2.out.trans (b3.mono HB2.out.size)); clear b3))
   refine ⟨⟨i + 1, _, ?_, rfl, ?_, ?_, ?_⟩, ?_⟩
   ·rw [HY.out]
   ·rfl
   ·have := HLT.out; omega
   ·exact HB3.out
   ·have := HLT.out; simp only [intOf]; omega
  ·have hl1 : ¬ (i : Int) < (n : Int) := by omega
   have e : i = n := by omega
   have HT : x.elems.take i = x.elems := List.take_of_length_le (by rw [elems_len, ← HN.out]; omega)
   have HT := Lib.hid HT
   clear hlt hi e
   go_wp2_with fail
   go_ret
   refine ⟨?_, HB.out⟩
   show Ending.returned (.int .i64 (deepL x.elems)) = .returned (.int .i64 (x.deep))
   rw [HEX.out]
set_option maxRecDepth 20000 in
set_option maxHeartbeats 4000000 in
theorem largest_b (w : World) (P : Nat → Prop) (x : X) (A : Option Addr) (n c : Nat) (h : Sl x.len (Rd w P x).row 1 (.slice A n c)) (hb : n ≤ 100000)
  (H : ∀ y ∈ x.elems, ∀ w1 (v0 : Value), (Rd w1 P y).cells #[v0] → Calls Tryz.prog 17 #[v0] w1 (DR y.deep w1)) :
  Calls Tryz.prog 74 #[.slice A n c, .func (.func 17) #[] #[]] w (DR x.deep w) := by
 have HX := Lib.hid h
 have HH := Lib.hid H
 have HN := Lib.hid (Sl.len h).1
 have EX : X.deep x = deepL x.elems := row_deep x 1 A 0 (by obtain ⟨A', c', e, -, -, hr⟩ := h; injection e with e1; subst e1; exact hr)
 have HEX := Lib.hid EX
 have n0 : (0 : Int) ≤ (n : Int) := by omega
 have n1 : (n : Int) ≤ 100000 := by omega
 clear h H hb EX
 go_enter Tryz.func74, Tryz.ntmps74
 go_wp2_with fail
 go_loopw [5, 7, 10] (fun u5 u7 u10 wr => ∃ (i : Nat) (v : Value), u5 = .int .i64 (deepL (x.elems.take i)) ∧ u7 = v ∧ u10 = .int .i64 (i : Int) ∧ i ≤ n ∧ Below w.heap.size w wr) (fun _ _ u10 _ => (n : Int).toNat - (intOf u10).toNat)
 case atStart => exact ⟨0, undef, by rw [List.take_zero, deepL_nil], rfl, rfl, Nat.zero_le _, Below.refl _ _⟩
 case round =>
  obtain ⟨i, v, rfl, rfl, rfl, hi, hbl⟩ := hrel
  have HB := Lib.hid hbl
  have i0 : (0 : Int) ≤ (i : Int) := by omega
  have wi : wrap64 ((i : Int) + 1) = (i : Int) + 1 := by unfold wrap64; omega
  clear hbl
  by_cases hlt : i < n
  ·obtain ⟨p, y, v0, rfl, hy, c0, rd⟩ := Sl.at1 (Sl.bel HB.out HX.out) (by rw [← HN.out]; exact hlt)
   have RD := Lib.hid rd
   rw [Nat.mul_one] at c0
   have HC := Lib.hid (HH.out y (List.mem_of_getElem? hy))
   have HY := Lib.hid (deepL_take x.elems i y hy)
   have hl1 : (i : Int) < (n : Int) := by omega
   have HLT := Lib.hid hlt
   have HBC := Lib.hid (Nat.le_refl wr.heap.size)
   have mx := run_mx (deepL (x.elems.take i)) y.deep
   clear hi hy rd hlt
   go_wp2_with (first
    |(go_at_call 17; refine (HC.out _ v0 RD.out).mono ?_; rintro e w3 ⟨rfl, b3⟩; have HB3 := Lib.hid (HB.out.trans (b3.mono HB.out.size)); clear b3))
   refine ⟨⟨i + 1, _, ?_, rfl, ?_, ?_, ?_⟩, ?_⟩
   ·rw [HY.out]
   ·rfl
   ·have := HLT.out; omega
   ·exact HB3.out
   ·have := HLT.out; simp only [intOf]; omega
  ·have hl1 : ¬ (i : Int) < (n : Int) := by omega
   have e : i = n := by omega
   have HT : x.elems.take i = x.elems := List.take_of_length_le (by rw [elems_len, ← HN.out]; omega)
   have HT := Lib.hid HT
   clear hlt hi e
   go_wp2_with fail
   go_ret
   refine ⟨?_, HB.out⟩
   show Ending.returned (.int .i64 (deepL x.elems)) = .returned (.int .i64 (x.deep))
   rw [HEX.out]
def DeepS (x : X) : Prop := x.fit 100000 → ∀ (w : World) (P : Nat → Prop) (cs : Array Value), (Rd w P x).cells cs → match x with
 | .e .. => Calls Tryz.prog 73 #[.agg cs] w (DR x.deep w)
 | .f .. => Calls Tryz.prog 122 #[.agg cs] w (DR x.deep w)
 | .s .. => Calls Tryz.prog 36 #[.agg cs] w (DR x.deep w)
 | .blk _ => ∀ v, cs = #[v] → Calls Tryz.prog 17 #[v] w (DR x.deep w)
 | _ => True
theorem lar_e {l : X} (hl : l.fit 100000) (H : ∀ y ∈ l.elems, DeepS y) {w : World} {P : Nat → Prop} {A : Option Addr} {c : Nat} (h : Sl l.len (Rd w P l).row 7 (.slice A l.len c)) : Calls Tryz.prog 72 #[.slice A l.len c, .func (.func 73) #[] #[]] w (DR l.deep w) :=
 largest_e w P l A l.len c h (X.fit_len l hl) fun y hy w1 v0 v1 v2 v3 v4 v5 v6 rd => by
  have k := H y hy (fit_elems l hl y hy) w1 P _ rd
  obtain ⟨_, _, _, _, _, _, _, _, _, rfl, -⟩ := Rd.is_e rd rfl
  exact k
theorem lar_f {l : X} (hl : l.fit 100000) (H : ∀ y ∈ l.elems, DeepS y) {w : World} {P : Nat → Prop} {A : Option Addr} {c : Nat} (h : Sl l.len (Rd w P l).row 2 (.slice A l.len c)) : Calls Tryz.prog 121 #[.slice A l.len c, .func (.func 122) #[] #[]] w (DR l.deep w) :=
 largest_f w P l A l.len c h (X.fit_len l hl) fun y hy w1 v0 v1 rd => by
  have k := H y hy (fit_elems l hl y hy) w1 P _ rd
  obtain ⟨_, _, _, _, rfl, -⟩ := Rd.is_f rd rfl
  exact k
theorem lar_s {l : X} (hl : l.fit 100000) (H : ∀ y ∈ l.elems, DeepS y) {w : World} {P : Nat → Prop} {A : Option Addr} {c : Nat} (h : Sl l.len (Rd w P l).row 5 (.slice A l.len c)) : Calls Tryz.prog 35 #[.slice A l.len c, .func (.func 36) #[] #[]] w (DR l.deep w) :=
 largest_s w P l A l.len c h (X.fit_len l hl) fun y hy w1 v0 v1 v2 v3 v4 rd => by
  have k := H y hy (fit_elems l hl y hy) w1 P _ rd
  obtain ⟨_, _, _, _, _, _, _, _, rfl, -⟩ := Rd.is_s rd rfl
  exact k
theorem lar_b {l : X} (hl : l.fit 100000) (H : ∀ y ∈ l.elems, DeepS y) {w : World} {P : Nat → Prop} {A : Option Addr} {c : Nat} (h : Sl l.len (Rd w P l).row 1 (.slice A l.len c)) : Calls Tryz.prog 74 #[.slice A l.len c, .func (.func 17) #[] #[]] w (DR l.deep w) :=
 largest_b w P l A l.len c h (X.fit_len l hl) fun y hy w1 v0 rd => by
  have k := H y hy (fit_elems l hl y hy) w1 P _ rd
  obtain ⟨_, _, rfl, -⟩ := Rd.is_b rd rfl
  exact k _ rfl
theorem dp_any {l : X} {w : World} {P : Nat → Prop} {A : Option Addr} {c : Nat} (hl : l.fit 100000) (H : ∀ y ∈ l.elems, DeepS y) (h : Sl l.len (Rd w P l).row 5 (.slice A l.len c)) : Calls Tryz.prog 17 #[.slice A l.len c] w (DR (X.blk l).deep w) := by
 have H1 := Lib.hid (lar_s hl H h)
 obtain ⟨n, hn⟩ : ∃ n, l.len = n := ⟨_, rfl⟩
 have E := Lib.hid (show (X.blk l).deep = if l.len = 0 then 0 else wrap64 (1 + l.deep) from rfl)
 rw [hn] at H1 E ⊢
 clear h H hl hn
 by_cases h0 : n = 0
 ·rw [if_pos h0] at E
  subst h0
  go_enter Tryz.func17, Tryz.ntmps17
  go_wp2_with fail
  go_ret
  exact ⟨by rw [E.out]; rfl, Below.refl _ _⟩
 ·have hb : ((n : Int) == 0) = false := by rw [beq_eq_false_iff_ne]; omega
  rw [if_neg h0] at E
  clear h0
  go_enter Tryz.func17, Tryz.ntmps17
  go_wp2_with (go_at_call 35; refine H1.out.mono ?_; rintro e w' ⟨rfl, hbc⟩; have HB := Lib.hid hbc; clear hbc)
  go_ret
  exact ⟨by rw [E.out]; rfl, HB.out⟩
set_option maxRecDepth 20000 in
set_option maxHeartbeats 2000000 in
theorem deepS_all (x : X) : DeepS x ∧ ∀ y ∈ x.elems, DeepS y := by
 refine X.all (S := DeepS) ?_ ?_ ?_ ?_ (fun _ _ _ _ h => h.elim) (fun _ _ _ _ _ _ h => h.elim) x
 ·intro k a n s op l f hl hf fit w P cs rd
  obtain ⟨v5, v6, rfl, h1, h2⟩ := rd
  obtain ⟨A, c, rfl⟩ := sl_slice h1
  obtain ⟨B, d, rfl⟩ := sl_slice h2
  have H1 := Lib.hid (fun w1 (b : Below w.heap.size w w1) => lar_e (P := P) fit.1.1 hl (Sl.bel b h1))
  have H2 := Lib.hid (fun w1 (b : Below w.heap.size w w1) => lar_f (P := P) fit.1.2 hf (Sl.bel b h2))
  clear h1 h2 hl hf fit
  show Calls _ _ _ _ (DR (wrap64 (1 + max l.deep f.deep)) w)
  have mx := run_mx l.deep f.deep
  go_enter Tryz.func73, Tryz.ntmps73
  go_wp2_with fail
  obtain ⟨S, hS⟩ : ∃ S : World → Prop, S = (fun W => W.cell? ⟨w.heap.size, 5, none⟩ = some (.slice A l.len c) ∧ W.cell? ⟨w.heap.size, 6, none⟩ = some (.slice B f.len d) ∧ Below w.heap.size w W) := ⟨_, rfl⟩
  have s0 : S (w.alloc (.cells #[.int .i64 k, .int .i64 a, .int .i64 n, .string s, .int .i64 op, .slice A l.len c, .slice B f.len d] 41)).drew := by
   rw [hS]
   obtain ⟨⟨q0, q1, q2, q3, q4, q5, q6⟩, -⟩ := (Blk.new w #[.int .i64 k, .int .i64 a, .int .i64 n, .string s, .int .i64 op, .slice A l.len c, .slice B f.len d] 41).seven
   exact ⟨q5, q6, ((Below.refl _ w).alloc (Nat.le_refl _) _).drew⟩
  have kp : ∀ W W', S W → Below W.heap.size W W' → S W' := fun W W' h b => by
   rw [hS] at h ⊢
   obtain ⟨h5, h6, h9⟩ := h
   exact ⟨cell_in b h5, cell_in b h6, below_then h9 b⟩
  have C0 := Lib.hid (fun W (h : S W) => H1.out W (by rw [hS] at h; exact h.2.2))
  have C1 := Lib.hid (fun W (h : S W) => H2.out W (by rw [hS] at h; exact h.2.2))
  rw [hS] at s0 kp C0 C1
  have S0 := Lib.hid s0
  have KP := Lib.hid kp
  clear s0 kp hS S
  have mixed : Tryz.prog.follows .mixedOrders = true := by kernel_rfl
  go_region_held3 (fun W => W.cell? ⟨w.heap.size, 5, none⟩ = some (.slice A l.len c) ∧ W.cell? ⟨w.heap.size, 6, none⟩ = some (.slice B f.len d) ∧ Below w.heap.size w W) (first | assumption | exact S0.out | exact KP.out _ _ (by assumption) (by assumption)) (first
   |(go_at_call 72; refine (C0.out _ (by assumption)).mono ?_; rintro e w' ⟨rfl, hbc⟩)
   |(go_at_call 121; refine (C1.out _ (by assumption)).mono ?_; rintro e w' ⟨rfl, hbc⟩))
  go_wp2_with fail
  rename_i hS2
  have HB2 := Lib.hid hS2.2.2
  clear hS2
  go_ret
  refine ⟨?_, HB2.out⟩
  show Ending.returned (.int .i64 (IntKind.i64.wrap (1 + max l.deep f.deep))) = .returned (.int .i64 (wrap64 (1 + max l.deep f.deep)))
  rw [IntKind.wrap_i64]
  unfold wrap64
  rfl
 ·intro ps b hb fit w P cs rd
  obtain ⟨v0, v1, rfl, h0, h1⟩ := rd
  obtain ⟨A, c, rfl⟩ := sl_slice h1
  have H1 := Lib.hid (fun w1 (k : Below w.heap.size w w1) => dp_any (P := P) (l := b) fit.1.2 hb (Sl.bel k h1))
  clear h0 h1 hb fit
  show Calls _ _ _ _ (DR (X.blk b).deep w)
  go_enter Tryz.func122, Tryz.ntmps122
  go_wp2_with fail
  have H2 := Lib.hid (H1.out (w.alloc (.cells #[v0, .slice A b.len c] 94)) ((Below.refl _ w).alloc (Nat.le_refl _) _))
  obtain ⟨⟨q0, q1⟩, -⟩ := (Blk.new w #[v0, .slice A b.len c] 94).pair
  go_wp2_with (go_at_call 17; refine H2.out.mono ?_; rintro e w' ⟨rfl, hbc⟩; have HB := Lib.hid (((Below.refl _ w).alloc (Nat.le_refl _) (.cells #[v0, .slice A b.len c] 94)).trans (hbc.mono (Nat.le_of_lt (al_lt w _)))); clear hbc)
  go_ret
  exact ⟨rfl, HB.out⟩
 ·intro k a ns l b hl hb fit w P cs rd
  obtain ⟨v2, v3, v4, rfl, h0, h1, h2⟩ := rd
  obtain ⟨A, c, rfl⟩ := sl_slice h1
  obtain ⟨B, d, rfl⟩ := sl_slice h2
  have H1 := Lib.hid (fun w1 (b : Below w.heap.size w w1) => lar_e (P := P) fit.1.2.1 hl (Sl.bel b h1))
  have H2 := Lib.hid (fun w1 (b : Below w.heap.size w w1) => lar_b (P := P) fit.1.2.2 hb (Sl.bel b h2))
  clear h0 h1 h2 hl hb fit
  show Calls _ _ _ _ (DR (max l.deep b.deep) w)
  have mx := run_mx l.deep b.deep
  go_enter Tryz.func36, Tryz.ntmps36
  go_wp2_with fail
  obtain ⟨S, hS⟩ : ∃ S : World → Prop, S = (fun W => W.cell? ⟨w.heap.size, 3, none⟩ = some (.slice A l.len c) ∧ W.cell? ⟨w.heap.size, 4, none⟩ = some (.slice B b.len d) ∧ Below w.heap.size w W) := ⟨_, rfl⟩
  have s0 : S (w.alloc (.cells #[.int .i64 k, .int .i64 a, v2, .slice A l.len c, .slice B b.len d] 34)).drew := by
   rw [hS]
   obtain ⟨⟨q0, q1, q2, q3, q4⟩, -⟩ := (Blk.new w #[.int .i64 k, .int .i64 a, v2, .slice A l.len c, .slice B b.len d] 34).five
   exact ⟨q3, q4, ((Below.refl _ w).alloc (Nat.le_refl _) _).drew⟩
  have kp : ∀ W W', S W → Below W.heap.size W W' → S W' := fun W W' h b => by
   rw [hS] at h ⊢
   obtain ⟨h3, h4, h9⟩ := h
   exact ⟨cell_in b h3, cell_in b h4, below_then h9 b⟩
  have C0 := Lib.hid (fun W (h : S W) => H1.out W (by rw [hS] at h; exact h.2.2))
  have C1 := Lib.hid (fun W (h : S W) => H2.out W (by rw [hS] at h; exact h.2.2))
  rw [hS] at s0 kp C0 C1
  have S0 := Lib.hid s0
  have KP := Lib.hid kp
  clear s0 kp hS S
  have mixed : Tryz.prog.follows .mixedOrders = true := by kernel_rfl
  go_region_held3 (fun W => W.cell? ⟨w.heap.size, 3, none⟩ = some (.slice A l.len c) ∧ W.cell? ⟨w.heap.size, 4, none⟩ = some (.slice B b.len d) ∧ Below w.heap.size w W) (first | assumption | exact S0.out | exact KP.out _ _ (by assumption) (by assumption)) (first
   |(go_at_call 72; refine (C0.out _ (by assumption)).mono ?_; rintro e w' ⟨rfl, hbc⟩)
   |(go_at_call 74; refine (C1.out _ (by assumption)).mono ?_; rintro e w' ⟨rfl, hbc⟩))
  go_wp2_with fail
  rename_i hS2
  have HB2 := Lib.hid hS2.2.2
  clear hS2
  go_ret
  exact ⟨rfl, HB2.out⟩
 ·intro l hl fit w P cs rd v ev
  subst ev
  obtain ⟨v', e, h1⟩ := rd
  obtain rfl : v' = v := by injection e with e; injection e with e; exact e.symm
  obtain ⟨A, c, rfl⟩ := sl_slice h1
  exact dp_any (P := P) (l := l) fit hl h1
/-- Deep, of any tree whose rows are not too great. -/
theorem tdeep_any {l : X} {w : World} {P : Nat → Prop} {v : Value} (hl : l.fit 100000) (h : Sl l.len (Rd w P l).row 5 v) : Calls Tryz.prog 17 #[v] w (DR (X.blk l).deep w) := by
 obtain ⟨A, c, rfl⟩ := sl_slice h
 exact dp_any hl (deepS_all l).2 h
end Go.Proofs.YtbcjpnmakcmndaaGreatDoor
