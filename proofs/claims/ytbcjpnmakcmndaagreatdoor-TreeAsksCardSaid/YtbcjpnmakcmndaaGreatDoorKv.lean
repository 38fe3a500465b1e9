/- Texts of one proof behind one another: TcE, TcF. -/
import Derived.Test.YtbcjpnmakcmndaaGreatDoorKu
/- Package tree: Same: rows (printed by gente.py). -/
namespace Go.Proofs.YtbcjpnmakcmndaaGreatDoor
open Go.RowKit PrM
set_option linter.unusedVariables false
set_option linter.unusedSimpArgs false
/-- 15.1: the same in everything. -/
def PrM.X.same : X → X → Bool
 | .nil, .nil => true
 | .cons a t, .cons b u => a.same b && t.same u
 | .e k a n sv op l fv, .e k' a' n' sv' op' l' fv' => decide (k = k') && (decide (a = a') && (decide (n = n') && (decide (sv = sv') && (decide (op = op') && (l.same l' && fv.same fv')))))
 | .f ps b, .f qs c => decide (ps = qs) && b.same c
 | .s k a ns l b, .s k' a' ns' l' b' => decide (k = k') && (decide (a = a') && (decide (ns = ns') && (l.same l' && b.same b')))
 | .blk l, .blk m => l.same m
 | _, _ => false
def sameL : List X → List X → Bool
 | [], [] => true
 | a :: r, b :: s => a.same b && sameL r s
 | _, _ => false
theorem row_same {w w2 : World} {P Q : Nat → Prop} : ∀ (x y : X) (z : Nat) (A B : Option Addr) (o1 o2 : Nat), (Rd w P x).row z A o1 → (Rd w2 Q y).row z B o2 → x.same y = sameL x.elems y.elems
 | .nil, .nil, _, _, _, _, _, _, _ => rfl
 | .nil, .cons _ _, _, _, _, _, _, _, _ => rfl
 | .cons _ _, .nil, _, _, _, _, _, _, _ => rfl
 | .cons a t, .cons b u, z, A, B, o1, o2, h, k => by show (a.same b && t.same u) = (a.same b && sameL t.elems u.elems); rw [row_same t u z A B (o1 + z) (o2 + z) h.2 k.2]
 | .e .., _, _, _, _, _, _, h, _ => h.elim
 | .f .., _, _, _, _, _, _, h, _ => h.elim
 | .s .., _, _, _, _, _, _, h, _ => h.elim
 | .blk _, _, _, _, _, _, _, h, _ => h.elim
 | .nil, .e .., _, _, _, _, _, _, h => h.elim
 | .nil, .f .., _, _, _, _, _, _, h => h.elim
 | .nil, .s .., _, _, _, _, _, _, h => h.elim
 | .nil, .blk _, _, _, _, _, _, _, h => h.elim
 | .cons _ _, .e .., _, _, _, _, _, _, h => h.elim
 | .cons _ _, .f .., _, _, _, _, _, _, h => h.elim
 | .cons _ _, .s .., _, _, _, _, _, _, h => h.elim
 | .cons _ _, .blk _, _, _, _, _, _, _, h => h.elim
theorem sl_same {w w2 : World} {P Q : Nat → Prop} {x y : X} {z : Nat} {v u : Value} (h : Sl x.len (Rd w P x).row z v) (k : Sl y.len (Rd w2 Q y).row z u) : x.same y = sameL x.elems y.elems := by
 obtain ⟨A, c, -, -, -, h⟩ := h
 obtain ⟨B, d, -, -, -, k⟩ := k
 exact row_same x y z A B 0 0 h k
theorem sameL_len : ∀ l m : List X, l.length ≠ m.length → sameL l m = false
 | [], [], h => absurd rfl h
 | [], _ :: _, _ => rfl
 | _ :: _, [], _ => rfl
 | a :: r, b :: s, h => by show (a.same b && sameL r s) = false; rw [sameL_len r s (fun e => h (by simp [e]))]; exact Bool.and_false _
theorem sameL_at : ∀ (l m : List X) (i : Nat) (a b : X), l[i]? = some a → m[i]? = some b → a.same b = false → sameL l m = false
 | x :: r, y :: s, 0, a, b, h, k, e => by
  simp at h k
  subst h k
  show (x.same y && sameL r s) = false
  rw [e]; rfl
 | x :: r, y :: s, i + 1, a, b, h, k, e => by
  show (x.same y && sameL r s) = false
  rw [sameL_at r s i a b (by simpa using h) (by simpa using k) e]
  exact Bool.and_false _
 | [], _, _, _, _, h, _, _ => by simp at h
 | _ :: _, [], _, _, _, _, k, _ => by simp at k
theorem sameL_take : ∀ (l m : List X) (i : Nat) (a b : X), l[i]? = some a → m[i]? = some b → sameL (l.take (i + 1)) (m.take (i + 1)) = (sameL (l.take i) (m.take i) && a.same b)
 | x :: r, y :: s, 0, a, b, h, k => by
  simp at h k
  subst h k
  show (x.same y && sameL (r.take 0) (s.take 0)) = (true && x.same y)
  rw [List.take_zero, List.take_zero]
  show (x.same y && true) = _
  simp
 | x :: r, y :: s, i + 1, a, b, h, k => by
  show (x.same y && sameL (r.take (i + 1)) (s.take (i + 1))) = (x.same y && sameL (r.take i) (s.take i) && a.same b)
  rw [sameL_take r s i a b (by simpa using h) (by simpa using k), Bool.and_assoc]
 | [], _, _, _, _, h, _ => by simp at h
 | _ :: _, [], _, _, _, _, k => by simp at k
theorem tl_eq (a b : ByteArray) : (a.toList = b.toList) ↔ a = b := by
 rw [Go.ByteArray.toList_eq, Go.ByteArray.toList_eq]
 constructor
 ·intro h
  cases a; cases b
  simp at h
  subst h
  rfl
 ·intro h
  rw [h]
theorem Strs.at {w : World} {P : Nat → Prop} {l : List ByteArray} {A : Option Addr} {n c i : Nat} (h : Strs w P (.slice A n c) l) (hi : i < l.length) : ∃ (p : Addr), A = some p ∧ w.cell? (p.add i) = some (.string l[i]) := by
 obtain ⟨A', c', e, -, -, hr⟩ := h
 injection e with e1 e2 e3
 subst e1
 obtain ⟨p, ep, -, -, hc⟩ := hr i hi
 exact ⟨p, ep, hc⟩
theorem strs_slice {w : World} {P : Nat → Prop} {v : Value} {l : List ByteArray} (h : Strs w P v l) : ∃ A c, v = .slice A l.length c := by
 obtain ⟨A, c, e, -⟩ := h
 exact ⟨A, c, e⟩
def SR (b : Bool) (w : World) (e : Ending) (w' : World) : Prop := e = .returned (.bool b) ∧ Below w.heap.size w w'
set_option maxRecDepth 20000 in
set_option maxHeartbeats 4000000 in
theorem eq_e (w : World) (P Q : Nat → Prop) (x y : X) (A B : Option Addr) (n m c d : Nat) (h : Sl x.len (Rd w P x).row 7 (.slice A n c)) (h2 : Sl y.len (Rd w Q y).row 7 (.slice B m d)) (hb : n ≤ 100000) (hb2 : m ≤ 100000)
  (H : ∀ a ∈ x.elems, ∀ (b : X) w1 (v0 v1 v2 v3 v4 v5 v6 u0 u1 u2 u3 u4 u5 u6 : Value), b.fit 100000 → (Rd w1 P a).cells #[v0, v1, v2, v3, v4, v5, v6] → (Rd w1 Q b).cells #[u0, u1, u2, u3, u4, u5, u6] → Calls Tryz.prog 62 #[.agg #[v0, v1, v2, v3, v4, v5, v6], .agg #[u0, u1, u2, u3, u4, u5, u6]] w1 (SR (a.same b) w1)) (hf : ∀ b ∈ y.elems, b.fit 100000) :
  Calls Tryz.prog 61 #[.slice A n c, .slice B m d, .func (.func 62) #[] #[]] w (SR (sameL x.elems y.elems) w) := by
 have HX := Lib.hid h
 have HY := Lib.hid h2
 have HH := Lib.hid H
 have HF := Lib.hid hf
 have HN := Lib.hid (Sl.len h).1
 have HM := Lib.hid (Sl.len h2).1
 have n0 : (0 : Int) ≤ (n : Int) := by omega
 have n1 : (n : Int) ≤ 100000 := by omega
 clear h h2 H hf
 by_cases hnm : n = m
 ·subst hnm
  clear hb2
  go_enter Tryz.func61, Tryz.ntmps61
  go_wp2_with fail
  go_loopw [7, 8, 9, 17] (fun u7 u8 u9 u17 wr => ∃ (i : Nat) (p7 p8 p9 : Value), u7 = p7 ∧ u8 = p8 ∧ u9 = p9 ∧ u17 = .int .i64 (i : Int) ∧ i ≤ n ∧ sameL (x.elems.take i) (y.elems.take i) = true ∧ Below w.heap.size w wr) (fun _ _ _ u17 _ => (n : Int).toNat - (intOf u17).toNat)
  case atStart => exact ⟨0, undef, undef, undef, rfl, rfl, rfl, rfl, Nat.zero_le _, rfl, Below.refl _ _⟩
  case round =>
   obtain ⟨i, p7, p8, p9, rfl, rfl, rfl, rfl, hi, hs, hbl⟩ := hrel
   have HB := Lib.hid hbl
   have HS := Lib.hid hs
   have i0 : (0 : Int) ≤ (i : Int) := by omega
   have wi : wrap64 ((i : Int) + 1) = (i : Int) + 1 := by unfold wrap64; omega
   clear hbl hs
   by_cases hlt : i < n
   ·obtain ⟨p, a, v0, v1, v2, v3, v4, v5, v6, rfl, ha, ⟨c0, c1, c2, c3, c4, c5, c6⟩, rda⟩ := Sl.at7 (Sl.bel HB.out HX.out) (by rw [← HN.out]; exact hlt)
    obtain ⟨q, b, u0, u1, u2, u3, u4, u5, u6, rfl, hb', ⟨d0, d1, d2, d3, d4, d5, d6⟩, rdb⟩ := Sl.at7 (Sl.bel HB.out HY.out) (by rw [← HM.out]; exact hlt)
    have RA := Lib.hid rda
    have RB := Lib.hid rdb
    have HC := Lib.hid (fun w1 h1 h2 => HH.out a (List.mem_of_getElem? ha) b w1 v0 v1 v2 v3 v4 v5 v6 u0 u1 u2 u3 u4 u5 u6 (HF.out b (List.mem_of_getElem? hb')) h1 h2)
    have HA := Lib.hid ha
    have HB' := Lib.hid hb'
    have hl1 : (i : Int) < (n : Int) := by omega
    have HLT := Lib.hid hlt
    obtain ⟨r, hr⟩ : ∃ r, a.same b = r := ⟨_, rfl⟩
    rw [hr] at HC
    have HR := Lib.hid hr
    clear hi ha hb' rda rdb hlt hr
    cases r with
    | true =>
     go_wp2_with (first
      |(refine wpList_store_row rfl 41 (.tmp 8) (.tmp 21) rfl wr.heap.size #[v0, v1, v2, v3, v4, v5, v6] rfl rfl 41 _ (Blk.new wr Z7 41) sizeE rfl (ones7 (Rd.one_cells _ _ RA.out)) ?_; obtain ⟨w2, hw, bb, K2, ss⟩ := boxT wr #[v0, v1, v2, v3, v4, v5, v6] Z7 41; rw [← hw]; clear hw ss; have HB2 := Lib.hid (HB.out.trans (bb.out.mono HB.out.size)); have RA2 := Lib.hid (Rd.bel bb.out RA.out); have RB2 := Lib.hid (Rd.bel bb.out RB.out); have e0 := cell_in bb.out d0; have e1 := cell_in bb.out d1; have e2 := cell_in bb.out d2; have e3 := cell_in bb.out d3; have e4 := cell_in bb.out d4; have e5 := cell_in bb.out d5; have e6 := cell_in bb.out d6; clear bb)
      |(refine wp_store_row 41 (.tmp 8) (.tmp 21) rfl wr.heap.size #[v0, v1, v2, v3, v4, v5, v6] rfl rfl 41 _ (Blk.new wr Z7 41) sizeE rfl (ones7 (Rd.one_cells _ _ RA.out)) ?_; obtain ⟨w2, hw, bb, K2, ss⟩ := boxT wr #[v0, v1, v2, v3, v4, v5, v6] Z7 41; rw [← hw]; clear hw ss; have HB2 := Lib.hid (HB.out.trans (bb.out.mono HB.out.size)); have RA2 := Lib.hid (Rd.bel bb.out RA.out); have RB2 := Lib.hid (Rd.bel bb.out RB.out); have e0 := cell_in bb.out d0; have e1 := cell_in bb.out d1; have e2 := cell_in bb.out d2; have e3 := cell_in bb.out d3; have e4 := cell_in bb.out d4; have e5 := cell_in bb.out d5; have e6 := cell_in bb.out d6; clear bb)
      |(refine wpList_store_row rfl 41 (.tmp 9) (.tmp 25) rfl w2.heap.size #[u0, u1, u2, u3, u4, u5, u6] rfl rfl 41 _ (Blk.new w2 Z7 41) sizeE rfl (ones7 (Rd.one_cells _ _ RB2.out)) ?_; obtain ⟨w3, hw, bb, K3, ss⟩ := boxT w2 #[u0, u1, u2, u3, u4, u5, u6] Z7 41; rw [← hw]; clear hw ss; have HB3 := Lib.hid (HB2.out.trans (bb.out.mono HB2.out.size)); have RA3 := Lib.hid (Rd.bel bb.out RA2.out); have RB3 := Lib.hid (Rd.bel bb.out RB2.out); have K4 := Lib.hid (K2.out.below bb.out K2.out.lt); obtain ⟨⟨k0, k1, k2, k3, k4, k5, k6⟩, -⟩ := K4.out.seven; obtain ⟨⟨l0, l1, l2, l3, l4, l5, l6⟩, -⟩ := K3.out.seven; clear bb)
      |(refine wp_store_row 41 (.tmp 9) (.tmp 25) rfl w2.heap.size #[u0, u1, u2, u3, u4, u5, u6] rfl rfl 41 _ (Blk.new w2 Z7 41) sizeE rfl (ones7 (Rd.one_cells _ _ RB2.out)) ?_; obtain ⟨w3, hw, bb, K3, ss⟩ := boxT w2 #[u0, u1, u2, u3, u4, u5, u6] Z7 41; rw [← hw]; clear hw ss; have HB3 := Lib.hid (HB2.out.trans (bb.out.mono HB2.out.size)); have RA3 := Lib.hid (Rd.bel bb.out RA2.out); have RB3 := Lib.hid (Rd.bel bb.out RB2.out); have K4 := Lib.hid (K2.out.below bb.out K2.out.lt); obtain ⟨⟨k0, k1, k2, k3, k4, k5, k6⟩, -⟩ := K4.out.seven; obtain ⟨⟨l0, l1, l2, l3, l4, l5, l6⟩, -⟩ := K3.out.seven; clear bb)
      |(go_at_call 62; refine (HC.out _ RA3.out RB3.out).mono ?_; rintro e w4 ⟨rfl, b4⟩; have HB4 := Lib.hid (HB3.out.trans (b4.mono HB3.out.size)); clear b4))
     refine ⟨⟨i + 1, _, _, _, rfl, rfl, rfl, rfl, (by have := HLT.out; omega), ?_, HB4.out⟩, ?_⟩
     ·rw [sameL_take _ _ _ _ _ HA.out HB'.out, HS.out, HR.out]
      rfl
     ·have := HLT.out
      simp only [intOf]
      omega
    | false =>
     go_wp2_with (first
      |(refine wpList_store_row rfl 41 (.tmp 8) (.tmp 21) rfl wr.heap.size #[v0, v1, v2, v3, v4, v5, v6] rfl rfl 41 _ (Blk.new wr Z7 41) sizeE rfl (ones7 (Rd.one_cells _ _ RA.out)) ?_; obtain ⟨w2, hw, bb, K2, ss⟩ := boxT wr #[v0, v1, v2, v3, v4, v5, v6] Z7 41; rw [← hw]; clear hw ss; have HB2 := Lib.hid (HB.out.trans (bb.out.mono HB.out.size)); have RA2 := Lib.hid (Rd.bel bb.out RA.out); have RB2 := Lib.hid (Rd.bel bb.out RB.out); have e0 := cell_in bb.out d0; have e1 := cell_in bb.out d1; have e2 := cell_in bb.out d2; have e3 := cell_in bb.out d3; have e4 := cell_in bb.out d4; have e5 := cell_in bb.out d5; have e6 := cell_in bb.out d6; clear bb)
      |(refine wp_store_row 41 (.tmp 8) (.tmp 21) rfl wr.heap.size #[v0, v1, v2, v3, v4, v5, v6] rfl rfl 41 _ (Blk.new wr Z7 41) sizeE rfl (ones7 (Rd.one_cells _ _ RA.out)) ?_; obtain ⟨w2, hw, bb, K2, ss⟩ := boxT wr #[v0, v1, v2, v3, v4, v5, v6] Z7 41; rw [← hw]; clear hw ss; have HB2 := Lib.hid (HB.out.trans (bb.out.mono HB.out.size)); have RA2 := Lib.hid (Rd.bel bb.out RA.out); have RB2 := Lib.hid (Rd.bel bb.out RB.out); have e0 := cell_in bb.out d0; have e1 := cell_in bb.out d1; have e2 := cell_in bb.out d2; have e3 := cell_in bb.out d3; have e4 := cell_in bb.out d4; have e5 := cell_in bb.out d5; have e6 := cell_in bb.out d6; clear bb)
      |(refine wpList_store_row rfl 41 (.tmp 9) (.tmp 25) rfl w2.heap.size #[u0, u1, u2, u3, u4, u5, u6] rfl rfl 41 _ (Blk.new w2 Z7 41) sizeE rfl (ones7 (Rd.one_cells _ _ RB2.out)) ?_; obtain ⟨w3, hw, bb, K3, ss⟩ := boxT w2 #[u0, u1, u2, u3, u4, u5, u6] Z7 41; rw [← hw]; clear hw ss; have HB3 := Lib.hid (HB2.out.trans (bb.out.mono HB2.out.size)); have RA3 := Lib.hid (Rd.bel bb.out RA2.out); have RB3 := Lib.hid (Rd.bel bb.out RB2.out); have K4 := Lib.hid (K2.out.below bb.out K2.out.lt); obtain ⟨⟨k0, k1, k2, k3, k4, k5, k6⟩, -⟩ := K4.out.seven; obtain ⟨⟨l0, l1, l2, l3, l4, l5, l6⟩, -⟩ := K3.out.seven; clear bb)
      |(refine wp_store_row 41 (.tmp 9) (.tmp 25) rfl w2.heap.size #[u0, u1, u2, u3, u4, u5, u6] rfl rfl 41 _ (Blk.new w2 Z7 41) sizeE rfl (ones7 (Rd.one_cells _ _ RB2.out)) ?_; obtain ⟨w3, hw, bb, K3, ss⟩ := boxT w2 #[u0, u1, u2, u3, u4, u5, u6] Z7 41; rw [← hw]; clear hw ss; have HB3 := Lib.hid (HB2.out.trans (bb.out.mono HB2.out.size)); have RA3 := Lib.hid (Rd.bel bb.out RA2.out); have RB3 := Lib.hid (Rd.bel bb.out RB2.out); have K4 := Lib.hid (K2.out.below bb.out K2.out.lt); obtain ⟨⟨k0, k1, k2, k3, k4, k5, k6⟩, -⟩ := K4.out.seven; obtain ⟨⟨l0, l1, l2, l3, l4, l5, l6⟩, -⟩ := K3.out.seven; clear bb)
      |(go_at_call 62; refine (HC.out _ RA3.out RB3.out).mono ?_; rintro e w4 ⟨rfl, b4⟩; have HB4 := Lib.hid (HB3.out.trans (b4.mono HB3.out.size)); clear b4))
     go_ret
     exact ⟨by rw [sameL_at _ _ _ _ _ HA.out HB'.out HR.out]; rfl, HB4.out⟩
   ·have hl1 : ¬ (i : Int) < (n : Int) := by omega
    have e : i = n := by omega
    have HT := Lib.hid (show sameL x.elems y.elems = true by
     have := HS.out
     rwa [List.take_of_length_le (by rw [elems_len, ← HN.out]; omega), List.take_of_length_le (by rw [elems_len, ← HM.out]; omega)] at this)
    clear hlt hi e
    go_wp2_with fail
    go_ret
    exact ⟨by rw [HT.out]; rfl, HB.out⟩
 ·have ne1 : ((n : Int) != (m : Int)) = true := by
   rw [bne_iff_ne]
   omega
  have HT := Lib.hid (sameL_len x.elems y.elems (by rw [elems_len, elems_len, ← HN.out, ← HM.out]; exact hnm))
  clear hnm
  go_enter Tryz.func61, Tryz.ntmps61
  go_wp2_with fail
  go_ret
  exact ⟨by rw [HT.out]; rfl, Below.refl _ _⟩
set_option maxRecDepth 20000 in
set_option maxHeartbeats 4000000 in
theorem eq_f (w : World) (P Q : Nat → Prop) (x y : X) (A B : Option Addr) (n m c d : Nat) (h : Sl x.len (Rd w P x).row 2 (.slice A n c)) (h2 : Sl y.len (Rd w Q y).row 2 (.slice B m d)) (hb : n ≤ 100000) (hb2 : m ≤ 100000)
  (H : ∀ a ∈ x.elems, ∀ (b : X) w1 (v0 v1 u0 u1 : Value), b.fit 100000 → (Rd w1 P a).cells #[v0, v1] → (Rd w1 Q b).cells #[u0, u1] → Calls Tryz.prog 115 #[.agg #[v0, v1], .agg #[u0, u1]] w1 (SR (a.same b) w1)) (hf : ∀ b ∈ y.elems, b.fit 100000) :
  Calls Tryz.prog 114 #[.slice A n c, .slice B m d, .func (.func 115) #[] #[]] w (SR (sameL x.elems y.elems) w) := by
 have HX := Lib.hid h
 have HY := Lib.hid h2
 have HH := Lib.hid H
 have HF := Lib.hid hf
 have HN := Lib.hid (Sl.len h).1
 have HM := Lib.hid (Sl.len h2).1
 have n0 : (0 : Int) ≤ (n : Int) := by omega
 have n1 : (n : Int) ≤ 100000 := by omega
 clear h h2 H hf
 by_cases hnm : n = m
 ·subst hnm
  clear hb2
  go_enter Tryz.func114, Tryz.ntmps114
  go_wp2_with fail
  go_loopw [7, 8, 9, 17] (fun u7 u8 u9 u17 wr => ∃ (i : Nat) (p7 p8 p9 : Value), u7 = p7 ∧ u8 = p8 ∧ u9 = p9 ∧ u17 = .int .i64 (i : Int) ∧ i ≤ n ∧ sameL (x.elems.take i) (y.elems.take i) = true ∧ Below w.heap.size w wr) (fun _ _ _ u17 _ => (n : Int).toNat - (intOf u17).toNat)
  case atStart => exact ⟨0, undef, undef, undef, rfl, rfl, rfl, rfl, Nat.zero_le _, rfl, Below.refl _ _⟩
  case round =>
   obtain ⟨i, p7, p8, p9, rfl, rfl, rfl, rfl, hi, hs, hbl⟩ := hrel
   have HB := Lib.hid hbl
   have HS := Lib.hid hs
   have i0 : (0 : Int) ≤ (i : Int) := by omega
   have wi : wrap64 ((i : Int) + 1) = (i : Int) + 1 := by unfold wrap64; omega
   clear hbl hs
   by_cases hlt : i < n
   ·obtain ⟨p, a, v0, v1, rfl, ha, ⟨c0, c1⟩, rda⟩ := Sl.at2 (Sl.bel HB.out HX.out) (by rw [← HN.out]; exact hlt)
    obtain ⟨q, b, u0, u1, rfl, hb', ⟨d0, d1⟩, rdb⟩ := Sl.at2 (Sl.bel HB.out HY.out) (by rw [← HM.out]; exact hlt)
    have RA := Lib.hid rda
    have RB := Lib.hid rdb
    have HC := Lib.hid (fun w1 h1 h2 => HH.out a (List.mem_of_getElem? ha) b w1 v0 v1 u0 u1 (HF.out b (List.mem_of_getElem? hb')) h1 h2)
    have HA := Lib.hid ha
    have HB' := Lib.hid hb'
    have hl1 : (i : Int) < (n : Int) := by omega
    have HLT := Lib.hid hlt
    obtain ⟨r, hr⟩ : ∃ r, a.same b = r := ⟨_, rfl⟩
    rw [hr] at HC
    have HR := Lib.hid hr
    clear hi ha hb' rda rdb hlt hr
    cases r with
    | true =>
     go_wp2_with (first
      |(refine wpList_store_row rfl 94 (.tmp 8) (.tmp 21) rfl wr.heap.size #[v0, v1] rfl rfl 94 _ (Blk.new wr Z2 94) sizeF rfl (onesN (Rd.one_cells _ _ RA.out)) ?_; obtain ⟨w2, hw, bb, K2, ss⟩ := boxT wr #[v0, v1] Z2 94; rw [← hw]; clear hw ss; have HB2 := Lib.hid (HB.out.trans (bb.out.mono HB.out.size)); have RA2 := Lib.hid (Rd.bel bb.out RA.out); have RB2 := Lib.hid (Rd.bel bb.out RB.out); have e0 := cell_in bb.out d0; have e1 := cell_in bb.out d1; clear bb)
      |(refine wp_store_row 94 (.tmp 8) (.tmp 21) rfl wr.heap.size #[v0, v1] rfl rfl 94 _ (Blk.new wr Z2 94) sizeF rfl (onesN (Rd.one_cells _ _ RA.out)) ?_; obtain ⟨w2, hw, bb, K2, ss⟩ := boxT wr #[v0, v1] Z2 94; rw [← hw]; clear hw ss; have HB2 := Lib.hid (HB.out.trans (bb.out.mono HB.out.size)); have RA2 := Lib.hid (Rd.bel bb.out RA.out); have RB2 := Lib.hid (Rd.bel bb.out RB.out); have e0 := cell_in bb.out d0; have e1 := cell_in bb.out d1; clear bb)
      |(refine wpList_store_row rfl 94 (.tmp 9) (.tmp 25) rfl w2.heap.size #[u0, u1] rfl rfl 94 _ (Blk.new w2 Z2 94) sizeF rfl (onesN (Rd.one_cells _ _ RB2.out)) ?_; obtain ⟨w3, hw, bb, K3, ss⟩ := boxT w2 #[u0, u1] Z2 94; rw [← hw]; clear hw ss; have HB3 := Lib.hid (HB2.out.trans (bb.out.mono HB2.out.size)); have RA3 := Lib.hid (Rd.bel bb.out RA2.out); have RB3 := Lib.hid (Rd.bel bb.out RB2.out); have K4 := Lib.hid (K2.out.below bb.out K2.out.lt); obtain ⟨⟨k0, k1⟩, -⟩ := K4.out.pair; obtain ⟨⟨l0, l1⟩, -⟩ := K3.out.pair; clear bb)
      |(refine wp_store_row 94 (.tmp 9) (.tmp 25) rfl w2.heap.size #[u0, u1] rfl rfl 94 _ (Blk.new w2 Z2 94) sizeF rfl (onesN (Rd.one_cells _ _ RB2.out)) ?_; obtain ⟨w3, hw, bb, K3, ss⟩ := boxT w2 #[u0, u1] Z2 94; rw [← hw]; clear hw ss; have HB3 := Lib.hid (HB2.out.trans (bb.out.mono HB2.out.size)); have RA3 := Lib.hid (Rd.bel bb.out RA2.out); have RB3 := Lib.hid (Rd.bel bb.out RB2.out); have K4 := Lib.hid (K2.out.below bb.out K2.out.lt); obtain ⟨⟨k0, k1⟩, -⟩ := K4.out.pair; obtain ⟨⟨l0, l1⟩, -⟩ := K3.out.pair; clear bb)
      |(go_at_call 115; refine (HC.out _ RA3.out RB3.out).mono ?_; rintro e w4 ⟨rfl, b4⟩; have HB4 := Lib.hid (HB3.out.trans (b4.mono HB3.out.size)); clear b4))
     refine ⟨⟨i + 1, _, _, _, rfl, rfl, rfl, rfl, (by have := HLT.out; omega), ?_, HB4.out⟩, ?_⟩
     ·rw [sameL_take _ _ _ _ _ HA.out HB'.out, HS.out, HR.out]
      rfl
     ·have := HLT.out
      simp only [intOf]
      omega
    | false =>
     go_wp2_with (first
      |(refine wpList_store_row rfl 94 (.tmp 8) (.tmp 21) rfl wr.heap.size #[v0, v1] rfl rfl 94 _ (Blk.new wr Z2 94) sizeF rfl (onesN (Rd.one_cells _ _ RA.out)) ?_; obtain ⟨w2, hw, bb, K2, ss⟩ := boxT wr #[v0, v1] Z2 94; rw [← hw]; clear hw ss; have HB2 := Lib.hid (HB.out.trans (bb.out.mono HB.out.size)); have RA2 := Lib.hid (Rd.bel bb.out RA.out); have RB2 := Lib.hid (Rd.bel bb.out RB.out); have e0 := cell_in bb.out d0; have e1 := cell_in bb.out d1; clear bb)
      |(refine wp_store_row 94 (.tmp 8) (.tmp 21) rfl wr.heap.size #[v0, v1] rfl rfl 94 _ (Blk.new wr Z2 94) sizeF rfl (onesN (Rd.one_cells _ _ RA.out)) ?_; obtain ⟨w2, hw, bb, K2, ss⟩ := boxT wr #[v0, v1] Z2 94; rw [← hw]; clear hw ss; have HB2 := Lib.hid (HB.out.trans (bb.out.mono HB.out.size)); have RA2 := Lib.hid (Rd.bel bb.out RA.out); have RB2 := Lib.hid (Rd.bel bb.out RB.out); have e0 := cell_in bb.out d0; have e1 := cell_in bb.out d1; clear bb)
      |(refine wpList_store_row rfl 94 (.tmp 9) (.tmp 25) rfl w2.heap.size #[u0, u1] rfl rfl 94 _ (Blk.new w2 Z2 94) sizeF rfl (onesN (Rd.one_cells _ _ RB2.out)) ?_; obtain ⟨w3, hw, bb, K3, ss⟩ := boxT w2 #[u0, u1] Z2 94; rw [← hw]; clear hw ss; have HB3 := Lib.hid (HB2.out.trans (bb.out.mono HB2.out.size)); have RA3 := Lib.hid (Rd.bel bb.out RA2.out); have RB3 := Lib.hid (Rd.bel bb.out RB2.out); have K4 := Lib.hid (K2.out.below bb.out K2.out.lt); obtain ⟨⟨k0, k1⟩, -⟩ := K4.out.pair; obtain ⟨⟨l0, l1⟩, -⟩ := K3.out.pair; clear bb)
      |(refine wp_store_row 94 (.tmp 9) (.tmp 25) rfl w2.heap.size #[u0, u1] rfl rfl 94 _ (Blk.new w2 Z2 94) sizeF rfl (onesN (Rd.one_cells _ _ RB2.out)) ?_; obtain ⟨w3, hw, bb, K3, ss⟩ := boxT w2 #[u0, u1] Z2 94; rw [← hw]; clear hw ss; have HB3 := Lib.hid (HB2.out.trans (bb.out.mono HB2.out.size)); have RA3 := Lib.hid (Rd.bel bb.out RA2.out); have RB3 := Lib.hid (Rd.bel bb.out RB2.out); have K4 := Lib.hid (K2.out.below bb.out K2.out.lt); obtain ⟨⟨k0, k1⟩, -⟩ := K4.out.pair; obtain ⟨⟨l0, l1⟩, -⟩ := K3.out.pair; clear bb)
      |(go_at_call 115; refine (HC.out _ RA3.out RB3.out).mono ?_; rintro e w4 ⟨rfl, b4⟩; have HB4 := Lib.hid (HB3.out.trans (b4.mono HB3.out.size)); clear b4))
     go_ret
     exact ⟨by rw [sameL_at _ _ _ _ _ HA.out HB'.out HR.out]; rfl, HB4.out⟩
   ·have hl1 : ¬ (i : Int) < (n : Int) := by omega
    have e : i = n := by omega
    have HT := Lib.hid (show sameL x.elems y.elems = true by
     have := HS.out
     rwa [List.take_of_length_le (by rw [elems_len, ← HN.out]; omega), List.take_of_length_le (by rw [elems_len, ← HM.out]; omega)] at this)
    clear hlt hi e
    go_wp2_with fail
    go_ret
    exact ⟨by rw [HT.out]; rfl, HB.out⟩
 ·have ne1 : ((n : Int) != (m : Int)) = true := by
   rw [bne_iff_ne]
   omega
  have HT := Lib.hid (sameL_len x.elems y.elems (by rw [elems_len, elems_len, ← HN.out, ← HM.out]; exact hnm))
  clear hnm
  go_enter Tryz.func114, Tryz.ntmps114
  go_wp2_with fail
  go_ret
  exact ⟨by rw [HT.out]; rfl, Below.refl _ _⟩
set_option maxRecDepth 20000 in
set_option maxHeartbeats 4000000 in
theorem eq_s (w : World) (P Q : Nat → Prop) (x y : X) (A B : Option Addr) (n m c d : Nat) (h : Sl x.len (Rd w P x).row 5 (.slice A n c)) (h2 : Sl y.len (Rd w Q y).row 5 (.slice B m d)) (hb : n ≤ 100000) (hb2 : m ≤ 100000)
  (H : ∀ a ∈ x.elems, ∀ (b : X) w1 (v0 v1 v2 v3 v4 u0 u1 u2 u3 u4 : Value), b.fit 100000 → (Rd w1 P a).cells #[v0, v1, v2, v3, v4] → (Rd w1 Q b).cells #[u0, u1, u2, u3, u4] → Calls Tryz.prog 26 #[.agg #[v0, v1, v2, v3, v4], .agg #[u0, u1, u2, u3, u4]] w1 (SR (a.same b) w1)) (hf : ∀ b ∈ y.elems, b.fit 100000) :
  Calls Tryz.prog 25 #[.slice A n c, .slice B m d, .func (.func 26) #[] #[]] w (SR (sameL x.elems y.elems) w) := by
 have HX := Lib.hid h
 have HY := Lib.hid h2
 have HH := Lib.hid H
 have HF := Lib.hid hf
 have HN := Lib.hid (Sl.len h).1
 have HM := Lib.hid (Sl.len h2).1
 have n0 : (0 : Int) ≤ (n : Int) := by omega
 have n1 : (n : Int) ≤ 100000 := by omega
 clear h h2 H hf
 by_cases hnm : n = m
 ·subst hnm
  clear hb2
  go_enter Tryz.func25, Tryz.ntmps25
  go_wp2_with fail
  go_loopw [7, 8, 9, 17] (fun u7 u8 u9 u17 wr => ∃ (i : Nat) (p7 p8 p9 : Value), u7 = p7 ∧ u8 = p8 ∧ u9 = p9 ∧ u17 = .int .i64 (i : Int) ∧ i ≤ n ∧ sameL (x.elems.take i) (y.elems.take i) = true ∧ Below w.heap.size w wr) (fun _ _ _ u17 _ => (n : Int).toNat - (intOf u17).toNat)
  case atStart => exact ⟨0, undef, undef, undef, rfl, rfl, rfl, rfl, Nat.zero_le _, rfl, Below.refl _ _⟩
  case round =>
   obtain ⟨i, p7, p8, p9, rfl, rfl, rfl, rfl, hi, hs, hbl⟩ := hrel
   have HB := Lib.hid hbl
   have HS := Lib.hid hs
   have i0 : (0 : Int) ≤ (i : Int) := by omega
   have wi : wrap64 ((i : Int) + 1) = (i : Int) + 1 := by unfold wrap64; omega
   clear hbl hs
   by_cases hlt : i < n
   ·obtain ⟨p, a, v0, v1, v2, v3, v4, rfl, ha, ⟨c0, c1, c2, c3, c4⟩, rda⟩ := Sl.at5 (Sl.bel HB.out HX.out) (by rw [← HN.out]; exact hlt)
    obtain ⟨q, b, u0, u1, u2, u3, u4, rfl, hb', ⟨d0, d1, d2, d3, d4⟩, rdb⟩ := Sl.at5 (Sl.bel HB.out HY.out) (by rw [← HM.out]; exact hlt)
    have RA := Lib.hid rda
    have RB := Lib.hid rdb
    have HC := Lib.hid (fun w1 h1 h2 => HH.out a (List.mem_of_getElem? ha) b w1 v0 v1 v2 v3 v4 u0 u1 u2 u3 u4 (HF.out b (List.mem_of_getElem? hb')) h1 h2)
    have HA := Lib.hid ha
    have HB' := Lib.hid hb'
    have hl1 : (i : Int) < (n : Int) := by omega
    have HLT := Lib.hid hlt
    obtain ⟨r, hr⟩ : ∃ r, a.same b = r := ⟨_, rfl⟩
    rw [hr] at HC
    have HR := Lib.hid hr
    clear hi ha hb' rda rdb hlt hr
    cases r with
    | true =>
     go_wp2_with (first
      |(refine wpList_store_row rfl 34 (.tmp 8) (.tmp 21) rfl wr.heap.size #[v0, v1, v2, v3, v4] rfl rfl 34 _ (Blk.new wr Z5 34) sizeSt rfl (onesN (Rd.one_cells _ _ RA.out)) ?_; obtain ⟨w2, hw, bb, K2, ss⟩ := boxT wr #[v0, v1, v2, v3, v4] Z5 34; rw [← hw]; clear hw ss; have HB2 := Lib.hid (HB.out.trans (bb.out.mono HB.out.size)); have RA2 := Lib.hid (Rd.bel bb.out RA.out); have RB2 := Lib.hid (Rd.bel bb.out RB.out); have e0 := cell_in bb.out d0; have e1 := cell_in bb.out d1; have e2 := cell_in bb.out d2; have e3 := cell_in bb.out d3; have e4 := cell_in bb.out d4; clear bb)
      |(refine wp_store_row 34 (.tmp 8) (.tmp 21) rfl wr.heap.size #[v0, v1, v2, v3, v4] rfl rfl 34 _ (Blk.new wr Z5 34) sizeSt rfl (onesN (Rd.one_cells _ _ RA.out)) ?_; obtain ⟨w2, hw, bb, K2, ss⟩ := boxT wr #[v0, v1, v2, v3, v4] Z5 34; rw [← hw]; clear hw ss; have HB2 := Lib.hid (HB.out.trans (bb.out.mono HB.out.size)); have RA2 := Lib.hid (Rd.bel bb.out RA.out); have RB2 := Lib.hid (Rd.bel bb.out RB.out); have e0 := cell_in bb.out d0; have e1 := cell_in bb.out d1; have e2 := cell_in bb.out d2; have e3 := cell_in bb.out d3; have e4 := cell_in bb.out d4; clear bb)
      |(refine wpList_store_row rfl 34 (.tmp 9) (.tmp 25) rfl w2.heap.size #[u0, u1, u2, u3, u4] rfl rfl 34 _ (Blk.new w2 Z5 34) sizeSt rfl (onesN (Rd.one_cells _ _ RB2.out)) ?_; obtain ⟨w3, hw, bb, K3, ss⟩ := boxT w2 #[u0, u1, u2, u3, u4] Z5 34; rw [← hw]; clear hw ss; have HB3 := Lib.hid (HB2.out.trans (bb.out.mono HB2.out.size)); have RA3 := Lib.hid (Rd.bel bb.out RA2.out); have RB3 := Lib.hid (Rd.bel bb.out RB2.out); have K4 := Lib.hid (K2.out.below bb.out K2.out.lt); obtain ⟨⟨k0, k1, k2, k3, k4⟩, -⟩ := K4.out.five; obtain ⟨⟨l0, l1, l2, l3, l4⟩, -⟩ := K3.out.five; clear bb)
      |(refine wp_store_row 34 (.tmp 9) (.tmp 25) rfl w2.heap.size #[u0, u1, u2, u3, u4] rfl rfl 34 _ (Blk.new w2 Z5 34) sizeSt rfl (onesN (Rd.one_cells _ _ RB2.out)) ?_; obtain ⟨w3, hw, bb, K3, ss⟩ := boxT w2 #[u0, u1, u2, u3, u4] Z5 34; rw [← hw]; clear hw ss; have HB3 := Lib.hid (HB2.out.trans (bb.out.mono HB2.out.size)); have RA3 := Lib.hid (Rd.bel bb.out RA2.out); have RB3 := Lib.hid (Rd.bel bb.out RB2.out); have K4 := Lib.hid (K2.out.below bb.out K2.out.lt); obtain ⟨⟨k0, k1, k2, k3, k4⟩, -⟩ := K4.out.five; obtain ⟨⟨l0, l1, l2, l3, l4⟩, -⟩ := K3.out.five; clear bb)
      |(go_at_call 26; refine (HC.out _ RA3.out RB3.out).mono ?_; rintro e w4 ⟨rfl, b4⟩; have HB4 := Lib.hid (HB3.out.trans (b4.mono HB3.out.size)); clear b4))
     refine ⟨⟨i + 1, _, _, _, rfl, rfl, rfl, rfl, (by have := HLT.out; omega), ?_, HB4.out⟩, ?_⟩
     ·rw [sameL_take _ _ _ _ _ HA.out HB'.out, HS.out, HR.out]
      rfl
     ·have := HLT.out
      simp only [intOf]
      omega
    | false =>
     go_wp2_with (first
      |(refine wpList_store_row rfl 34 (.tmp 8) (.tmp 21) rfl wr.heap.size #[v0, v1, v2, v3, v4] rfl rfl 34 _ (Blk.new wr Z5 34) sizeSt rfl (onesN (Rd.one_cells _ _ RA.out)) ?_; obtain ⟨w2, hw, bb, K2, ss⟩ := boxT wr #[v0, v1, v2, v3, v4] Z5 34; rw [← hw]; clear hw ss; have HB2 := Lib.hid (HB.out.trans (bb.out.mono HB.out.size)); have RA2 := Lib.hid (Rd.bel bb.out RA.out); have RB2 := Lib.hid (Rd.bel bb.out RB.out); have e0 := cell_in bb.out d0; have e1 := cell_in bb.out d1; have e2 := cell_in bb.out d2; have e3 := cell_in bb.out d3; have e4 := cell_in bb.out d4; clear bb)
      |(refine wp_store_row 34 (.tmp 8) (.tmp 21) rfl wr.heap.size #[v0, v1, v2, v3, v4] rfl rfl 34 _ (Blk.new wr Z5 34) sizeSt rfl (onesN (Rd.one_cells _ _ RA.out)) ?_; obtain ⟨w2, hw, bb, K2, ss⟩ := boxT wr #[v0, v1, v2, v3, v4] Z5 34; rw [← hw]; clear hw ss; have HB2 := Lib.hid (HB.out.trans (bb.out.mono HB.out.size)); have RA2 := Lib.hid (Rd.bel bb.out RA.out); have RB2 := Lib.hid (Rd.bel bb.out RB.out); have e0 := cell_in bb.out d0; have e1 := cell_in bb.out d1; have e2 := cell_in bb.out d2; have e3 := cell_in bb.out d3; have e4 := cell_in bb.out d4; clear bb)
      |(refine wpList_store_row rfl 34 (.tmp 9) (.tmp 25) rfl w2.heap.size #[u0, u1, u2, u3, u4] rfl rfl 34 _ (Blk.new w2 Z5 34) sizeSt rfl (onesN (Rd.one_cells _ _ RB2.out)) ?_; obtain ⟨w3, hw, bb, K3, ss⟩ := boxT w2 #[u0, u1, u2, u3, u4] Z5 34; rw [← hw]; clear hw ss; have HB3 := Lib.hid (HB2.out.trans (bb.out.mono HB2.out.size)); have RA3 := Lib.hid (Rd.bel bb.out RA2.out); have RB3 := Lib.hid (Rd.bel bb.out RB2.out); have K4 := Lib.hid (K2.out.below bb.out K2.out.lt); obtain ⟨⟨k0, k1, k2, k3, k4⟩, -⟩ := K4.out.five; obtain ⟨⟨l0, l1, l2, l3, l4⟩, -⟩ := K3.out.five; clear bb)
      |(refine wp_store_row 34 (.tmp 9) (.tmp 25) rfl w2.heap.size #[u0, u1, u2, u3, u4] rfl rfl 34 _ (Blk.new w2 Z5 34) sizeSt rfl (onesN (Rd.one_cells _ _ RB2.out)) ?_; obtain ⟨w3, hw, bb, K3, ss⟩ := boxT w2 #[u0, u1, u2, u3, u4] Z5 34; rw [← hw]; clear hw ss; have HB3 := Lib.hid (HB2.out.trans (bb.out.mono HB2.out.size)); have RA3 := Lib.hid (Rd.bel bb.out RA2.out); have RB3 := Lib.hid (Rd.bel bb.out RB2.out); have K4 := Lib.hid (K2.out.below bb.out K2.out.lt); obtain ⟨⟨k0, k1, k2, k3, k4⟩, -⟩ := K4.out.five; obtain ⟨⟨l0, l1, l2, l3, l4⟩, -⟩ := K3.out.five; clear bb)
      |(go_at_call 26; refine (HC.out _ RA3.out RB3.out).mono ?_; rintro e w4 ⟨rfl, b4⟩; have HB4 := Lib.hid (HB3.out.trans (b4.mono HB3.out.size)); clear b4))
     go_ret
     exact ⟨by rw [sameL_at _ _ _ _ _ HA.out HB'.out HR.out]; rfl, HB4.out⟩
   ·have hl1 : ¬ (i : Int) < (n : Int) := by omega
    have e : i = n := by omega
    have HT := Lib.hid (show sameL x.elems y.elems = true by
     have := HS.out
     rwa [List.take_of_length_le (by rw [elems_len, ← HN.out]; omega), List.take_of_length_le (by rw [elems_len, ← HM.out]; omega)] at this)
    clear hlt hi e
    go_wp2_with fail
    go_ret
    exact ⟨by rw [HT.out]; rfl, HB.out⟩
 ·have ne1 : ((n : Int) != (m : Int)) = true := by
   rw [bne_iff_ne]
   omega
  have HT := Lib.hid (sameL_len x.elems y.elems (by rw [elems_len, elems_len, ← HN.out, ← HM.out]; exact hnm))
  clear hnm
  go_enter Tryz.func25, Tryz.ntmps25
  go_wp2_with fail
  go_ret
  exact ⟨by rw [HT.out]; rfl, Below.refl _ _⟩
set_option maxRecDepth 20000 in
set_option maxHeartbeats 4000000 in
theorem eq_b (w : World) (P Q : Nat → Prop) (x y : X) (A B : Option Addr) (n m c d : Nat) (h : Sl x.len (Rd w P x).row 1 (.slice A n c)) (h2 : Sl y.len (Rd w Q y).row 1 (.slice B m d)) (hb : n ≤ 100000) (hb2 : m ≤ 100000)
  (H : ∀ a ∈ x.elems, ∀ (b : X) w1 (v0 u0 : Value), b.fit 100000 → (Rd w1 P a).cells #[v0] → (Rd w1 Q b).cells #[u0] → Calls Tryz.prog 11 #[v0, u0] w1 (SR (a.same b) w1)) (hf : ∀ b ∈ y.elems, b.fit 100000) :
  Calls Tryz.prog 63 #[.slice A n c, .slice B m d, .func (.func 11) #[] #[]] w (SR (sameL x.elems y.elems) w) := by
 have HX := Lib.hid h
 have HY := Lib.hid h2
 have HH := Lib.hid H
 have HF := Lib.hid hf
 have HN := Lib.hid (Sl.len h).1
 have HM := Lib.hid (Sl.len h2).1
 have n0 : (0 : Int) ≤ (n : Int) := by omega
 have n1 : (n : Int) ≤ 100000 := by omega
 clear h h2 H hf
 by_cases hnm : n = m
 ·subst hnm
  clear hb2
  go_enter Tryz.func63, Tryz.ntmps63
  go_wp2_with fail
  go_loopw [7, 8, 9, 17] (fun u7 u8 u9 u17 wr => ∃ (i : Nat) (p7 p8 p9 : Value), u7 = p7 ∧ u8 = p8 ∧ u9 = p9 ∧ u17 = .int .i64 (i : Int) ∧ i ≤ n ∧ sameL (x.elems.take i) (y.elems.take i) = true ∧ Below w.heap.size w wr) (fun _ _ _ u17 _ => (n : Int).toNat - (intOf u17).toNat)
  case atStart => exact ⟨0, undef, undef, undef, rfl, rfl, rfl, rfl, Nat.zero_le _, rfl, Below.refl _ _⟩
  case round =>
   obtain ⟨i, p7, p8, p9, rfl, rfl, rfl, rfl, hi, hs, hbl⟩ := hrel
   have HB := Lib.hid hbl
   have HS := Lib.hid hs
   have i0 : (0 : Int) ≤ (i : Int) := by omega
   have wi : wrap64 ((i : Int) + 1) = (i : Int) + 1 := by unfold wrap64; omega
   clear hbl hs
   by_cases hlt : i < n
   ·obtain ⟨p, a, v0, rfl, ha, c0, rda⟩ := Sl.at1 (Sl.bel HB.out HX.out) (by rw [← HN.out]; exact hlt)
    obtain ⟨q, b, u0, rfl, hb', d0, rdb⟩ := Sl.at1 (Sl.bel HB.out HY.out) (by rw [← HM.out]; exact hlt)
    have RA := Lib.hid rda
    have RB := Lib.hid rdb
    rw [Nat.mul_one] at c0 d0
    have HC := Lib.hid (fun w1 h1 h2 => HH.out a (List.mem_of_getElem? ha) b w1 v0 u0 (HF.out b (List.mem_of_getElem? hb')) h1 h2)
    have HA := Lib.hid ha
    have HB' := Lib.hid hb'
    have hl1 : (i : Int) < (n : Int) := by omega
    have HLT := Lib.hid hlt
    obtain ⟨r, hr⟩ : ∃ r, a.same b = r := ⟨_, rfl⟩
    rw [hr] at HC
    have HR := Lib.hid hr
    clear hi ha hb' rda rdb hlt hr
    cases r with
    | true =>
     go_wp2_with (go_at_call 11; refine (HC.out _ RA.out RB.out).mono ?_; rintro e w4 ⟨rfl, b4⟩; have HB4 := Lib.hid (HB.out.trans (b4.mono HB.out.size)); clear b4)
     refine ⟨⟨i + 1, _, _, _, rfl, rfl, rfl, rfl, (by have := HLT.out; omega), ?_, HB4.out⟩, ?_⟩
     ·rw [sameL_take _ _ _ _ _ HA.out HB'.out, HS.out, HR.out]
      rfl
     ·have := HLT.out
      simp only [intOf]
      omega
    | false =>
     go_wp2_with (go_at_call 11; refine (HC.out _ RA.out RB.out).mono ?_; rintro e w4 ⟨rfl, b4⟩; have HB4 := Lib.hid (HB.out.trans (b4.mono HB.out.size)); clear b4)
     go_ret
     exact ⟨by rw [sameL_at _ _ _ _ _ HA.out HB'.out HR.out]; rfl, HB4.out⟩
   ·have hl1 : ¬ (i : Int) < (n : Int) := by omega
    have e : i = n := by omega
    have HT := Lib.hid (show sameL x.elems y.elems = true by
     have := HS.out
     rwa [List.take_of_length_le (by rw [elems_len, ← HN.out]; omega), List.take_of_length_le (by rw [elems_len, ← HM.out]; omega)] at this)
    clear hlt hi e
    go_wp2_with fail
    go_ret
    exact ⟨by rw [HT.out]; rfl, HB.out⟩
 ·have ne1 : ((n : Int) != (m : Int)) = true := by
   rw [bne_iff_ne]
   omega
  have HT := Lib.hid (sameL_len x.elems y.elems (by rw [elems_len, elems_len, ← HN.out, ← HM.out]; exact hnm))
  clear hnm
  go_enter Tryz.func63, Tryz.ntmps63
  go_wp2_with fail
  go_ret
  exact ⟨by rw [HT.out]; rfl, Below.refl _ _⟩
set_option maxRecDepth 20000 in
set_option maxHeartbeats 4000000 in
theorem equal_str (w : World) (P Q : Nat → Prop) (l m : List ByteArray) (u v : Value) (h : Strs w P u l) (k : Strs w Q v m) (hb : l.length ≤ 100000) : Calls Tryz.prog 60 #[u, v] w (SR (decide (l = m)) w) := by
 obtain ⟨A, c, rfl⟩ := strs_slice h
 obtain ⟨B, d, rfl⟩ := strs_slice k
 obtain ⟨n, hn⟩ : ∃ n, l.length = n := ⟨_, rfl⟩
 obtain ⟨q, hq⟩ : ∃ q, m.length = q := ⟨_, rfl⟩
 rw [hn] at h hb ⊢
 rw [hq] at k ⊢
 have HX := Lib.hid h
 have HY := Lib.hid k
 have HN := Lib.hid hn
 have HM := Lib.hid hq
 have n0 : (0 : Int) ≤ (n : Int) := by omega
 have n1 : (n : Int) ≤ 100000 := by omega
 clear h k hn hq hb
 by_cases hnm : n = q
 ·subst hnm
  go_enter Tryz.func60, Tryz.ntmps60
  go_wp2_with fail
  go_loopw [5, 13] (fun u5 u13 wr => ∃ (i : Nat) (p5 : Value), u5 = p5 ∧ u13 = .int .i64 (i : Int) ∧ i ≤ n ∧ l.take i = m.take i ∧ Below w.heap.size w wr) (fun _ u13 _ => (n : Int).toNat - (intOf u13).toNat)
  case atStart => exact ⟨0, undef, rfl, rfl, Nat.zero_le _, by rw [List.take_zero, List.take_zero], Below.refl _ _⟩
  case round =>
   obtain ⟨i, p5, rfl, rfl, hi, hs, hbl⟩ := hrel
   have HB := Lib.hid hbl
   have HS := Lib.hid hs
   have i0 : (0 : Int) ≤ (i : Int) := by omega
   have wi : wrap64 ((i : Int) + 1) = (i : Int) + 1 := by unfold wrap64; omega
   clear hbl hs
   by_cases hlt : i < n
   ·have hl : i < l.length := by rw [HN.out]; exact hlt
    have hm : i < m.length := by rw [HM.out]; exact hlt
    obtain ⟨p, rfl, c0⟩ := Strs.at (Strs.bel HB.out HX.out) hl
    obtain ⟨r, rfl, d0⟩ := Strs.at (Strs.bel HB.out HY.out) hm
    obtain ⟨x, hx⟩ : ∃ x, l[i] = x := ⟨_, rfl⟩
    obtain ⟨y, hy⟩ : ∃ y, m[i] = y := ⟨_, rfl⟩
    rw [hx] at c0
    rw [hy] at d0
    have HXE := Lib.hid (show l[i]? = some x by rw [List.getElem?_eq_getElem hl, hx])
    have HYE := Lib.hid (show m[i]? = some y by rw [List.getElem?_eq_getElem hm, hy])
    have hl1 : (i : Int) < (n : Int) := by omega
    have HLT := Lib.hid hlt
    clear hi hlt hx hy hl hm
    by_cases hxy : x = y
    ·have e1 : (x.toList == y.toList) = true := by rw [hxy]; simp
     have HE := Lib.hid hxy
     clear hxy
     go_wp2_with fail
     go_region
     go_wp2_with fail
     refine ⟨⟨i + 1, _, rfl, rfl, (by have := HLT.out; omega), ?_, HB.out.drew⟩, ?_⟩
     ·rw [List.take_add_one, List.take_add_one, HS.out, HXE.out, HYE.out, HE.out]
     ·have := HLT.out
      simp only [intOf]
      omega
    ·have e1 : (x.toList == y.toList) = false := by rw [beq_eq_false_iff_ne]; exact fun e => hxy ((tl_eq x y).1 e)
     have HE := Lib.hid (show l ≠ m from fun e => by
      have h1 := HXE.out
      have h2 := HYE.out
      subst e
      rw [h1] at h2
      exact hxy (Option.some.inj h2))
     clear hxy
     go_wp2_with fail
     go_region
     go_wp2_with fail
     go_ret
     exact ⟨by rw [decide_eq_false HE.out]; rfl, HB.out.drew⟩
   ·have hl1 : ¬ (i : Int) < (n : Int) := by omega
    have e : i = n := by omega
    have HT := Lib.hid (show l = m by
     have := HS.out
     rwa [List.take_of_length_le (by have := HN.out; omega), List.take_of_length_le (by have := HM.out; omega)] at this)
    clear hlt hi e
    go_wp2_with fail
    go_ret
    exact ⟨by rw [decide_eq_true HT.out]; rfl, HB.out⟩
 ·have ne1 : ((n : Int) != (q : Int)) = true := by
   rw [bne_iff_ne]
   omega
  have HT := Lib.hid (show l ≠ m from fun e => hnm (by rw [← HN.out, ← HM.out, e]))
  clear hnm
  go_enter Tryz.func60, Tryz.ntmps60
  go_wp2_with fail
  go_ret
  exact ⟨by rw [decide_eq_false HT.out]; rfl, Below.refl _ _⟩
end Go.Proofs.YtbcjpnmakcmndaaGreatDoor
/- Package tree: Same (printed by genth.py). -/
namespace Go.Proofs.YtbcjpnmakcmndaaGreatDoor
open Go.RowKit PrM
set_option linter.unusedVariables false
set_option linter.unusedSimpArgs false
def SameS (x : X) : Prop := x.fit 100000 → ∀ (y : X) (w : World) (P Q : Nat → Prop) (cs ds : Array Value), y.fit 100000 → (Rd w P x).cells cs → (Rd w Q y).cells ds → cs.size = ds.size → match x with
 | .e .. => Calls Tryz.prog 62 #[.agg cs, .agg ds] w (SR (x.same y) w)
 | .f .. => Calls Tryz.prog 115 #[.agg cs, .agg ds] w (SR (x.same y) w)
 | .s .. => Calls Tryz.prog 26 #[.agg cs, .agg ds] w (SR (x.same y) w)
 | .blk _ => ∀ v u, cs = #[v] → ds = #[u] → Calls Tryz.prog 11 #[v, u] w (SR (x.same y) w)
 | _ => True
theorem seq_e {l l2 : X} (hl : l.fit 100000) (hl2 : l2.fit 100000) (H : ∀ y ∈ l.elems, SameS y) {w : World} {P Q : Nat → Prop} {A B : Option Addr} {c d : Nat} (h : Sl l.len (Rd w P l).row 7 (.slice A l.len c)) (h2 : Sl l2.len (Rd w Q l2).row 7 (.slice B l2.len d)) : Calls Tryz.prog 61 #[.slice A l.len c, .slice B l2.len d, .func (.func 62) #[] #[]] w (SR (l.same l2) w) := by
 rw [sl_same h h2]
 exact eq_e w P Q l l2 A B l.len l2.len c d h h2 (X.fit_len l hl) (X.fit_len l2 hl2) (fun a ha b w1 v0 v1 v2 v3 v4 v5 v6 u0 u1 u2 u3 u4 u5 u6 fb r1 r2 => by
  have k := H a ha (fit_elems l hl a ha) b w1 P Q _ _ fb r1 r2 rfl
  obtain ⟨_, _, _, _, _, _, _, _, _, rfl, -⟩ := Rd.is_e r1 rfl
  exact k) (fit_elems l2 hl2)
theorem seq_f {l l2 : X} (hl : l.fit 100000) (hl2 : l2.fit 100000) (H : ∀ y ∈ l.elems, SameS y) {w : World} {P Q : Nat → Prop} {A B : Option Addr} {c d : Nat} (h : Sl l.len (Rd w P l).row 2 (.slice A l.len c)) (h2 : Sl l2.len (Rd w Q l2).row 2 (.slice B l2.len d)) : Calls Tryz.prog 114 #[.slice A l.len c, .slice B l2.len d, .func (.func 115) #[] #[]] w (SR (l.same l2) w) := by
 rw [sl_same h h2]
 exact eq_f w P Q l l2 A B l.len l2.len c d h h2 (X.fit_len l hl) (X.fit_len l2 hl2) (fun a ha b w1 v0 v1 u0 u1 fb r1 r2 => by
  have k := H a ha (fit_elems l hl a ha) b w1 P Q _ _ fb r1 r2 rfl
  obtain ⟨_, _, _, _, rfl, -⟩ := Rd.is_f r1 rfl
  exact k) (fit_elems l2 hl2)
theorem seq_s {l l2 : X} (hl : l.fit 100000) (hl2 : l2.fit 100000) (H : ∀ y ∈ l.elems, SameS y) {w : World} {P Q : Nat → Prop} {A B : Option Addr} {c d : Nat} (h : Sl l.len (Rd w P l).row 5 (.slice A l.len c)) (h2 : Sl l2.len (Rd w Q l2).row 5 (.slice B l2.len d)) : Calls Tryz.prog 25 #[.slice A l.len c, .slice B l2.len d, .func (.func 26) #[] #[]] w (SR (l.same l2) w) := by
 rw [sl_same h h2]
 exact eq_s w P Q l l2 A B l.len l2.len c d h h2 (X.fit_len l hl) (X.fit_len l2 hl2) (fun a ha b w1 v0 v1 v2 v3 v4 u0 u1 u2 u3 u4 fb r1 r2 => by
  have k := H a ha (fit_elems l hl a ha) b w1 P Q _ _ fb r1 r2 rfl
  obtain ⟨_, _, _, _, _, _, _, _, rfl, -⟩ := Rd.is_s r1 rfl
  exact k) (fit_elems l2 hl2)
theorem seq_b {l l2 : X} (hl : l.fit 100000) (hl2 : l2.fit 100000) (H : ∀ y ∈ l.elems, SameS y) {w : World} {P Q : Nat → Prop} {A B : Option Addr} {c d : Nat} (h : Sl l.len (Rd w P l).row 1 (.slice A l.len c)) (h2 : Sl l2.len (Rd w Q l2).row 1 (.slice B l2.len d)) : Calls Tryz.prog 63 #[.slice A l.len c, .slice B l2.len d, .func (.func 11) #[] #[]] w (SR (l.same l2) w) := by
 rw [sl_same h h2]
 exact eq_b w P Q l l2 A B l.len l2.len c d h h2 (X.fit_len l hl) (X.fit_len l2 hl2) (fun a ha b w1 v0 u0 fb r1 r2 => by
  have k := H a ha (fit_elems l hl a ha) b w1 P Q _ _ fb r1 r2 rfl
  obtain ⟨_, _, rfl, -⟩ := Rd.is_b r1 rfl
  exact k _ _ rfl rfl) (fit_elems l2 hl2)
theorem sm_any {l l2 : X} {w : World} {P Q : Nat → Prop} {A B : Option Addr} {c d : Nat} (hl : l.fit 100000) (hl2 : l2.fit 100000) (H : ∀ y ∈ l.elems, SameS y) (h : Sl l.len (Rd w P l).row 5 (.slice A l.len c)) (h2 : Sl l2.len (Rd w Q l2).row 5 (.slice B l2.len d)) : Calls Tryz.prog 11 #[.slice A l.len c, .slice B l2.len d] w (SR (l.same l2) w) := by
 have H1 := Lib.hid (seq_s hl hl2 H h h2)
 clear h h2 H hl hl2
 go_enter Tryz.func11, Tryz.ntmps11
 go_wp2_with (go_at_call 25; refine H1.out.mono ?_; rintro e w' ⟨rfl, hbc⟩; have HB := Lib.hid hbc; clear hbc)
 go_ret
 exact ⟨rfl, HB.out⟩
set_option maxRecDepth 20000 in
set_option maxHeartbeats 8000000 in
theorem sameS_all (x : X) : SameS x ∧ ∀ y ∈ x.elems, SameS y := by
 refine X.all (S := SameS) ?_ ?_ ?_ ?_ (fun _ _ _ _ _ _ _ _ h _ _ => h.elim) (fun _ _ _ _ _ _ _ _ _ _ h _ _ => h.elim) x
 ·intro k a n sv op l fv hl hf fit y w P Q cs ds fy rd rd2 hz
  obtain ⟨v5, v6, rfl, h1, h2⟩ := rd
  obtain ⟨k', a', n', sv', op', l', fv', u5, u6, rfl, rfl, g1, g2⟩ := Rd.is_e rd2 hz.symm
  obtain ⟨A, c, rfl⟩ := sl_slice h1
  obtain ⟨B, d, rfl⟩ := sl_slice h2
  obtain ⟨A', c', rfl⟩ := sl_slice g1
  obtain ⟨B', d', rfl⟩ := sl_slice g2
  have H1 := Lib.hid (fun w1 (b : Below w.heap.size w w1) => seq_e (P := P) (Q := Q) fit.1.1 fy.1.1 hl (Sl.bel b h1) (Sl.bel b g1))
  have H2 := Lib.hid (fun w1 (b : Below w.heap.size w w1) => seq_f (P := P) (Q := Q) fit.1.2 fy.1.2 hf (Sl.bel b h2) (Sl.bel b g2))
  clear h1 h2 hl hf fit fy g1 g2 rd2 hz
  have E := Lib.hid (show (X.e k a n sv op l fv).same (.e k' a' n' sv' op' l' fv') = (decide (k = k') && (decide (a = a') && (decide (n = n') && (decide (sv = sv') && (decide (op = op') && (l.same l' && fv.same fv')))))) from rfl)
  show Calls _ _ _ _ (SR ((X.e k a n sv op l fv).same (.e k' a' n' sv' op' l' fv')) w)
  generalize (X.e k a n sv op l fv).same (.e k' a' n' sv' op' l' fv') = R at *
  obtain ⟨r1, hr1⟩ : ∃ r, l.same l' = r := ⟨_, rfl⟩
  obtain ⟨r2, hr2⟩ : ∃ r, fv.same fv' = r := ⟨_, rfl⟩
  rw [hr1] at H1 E
  rw [hr2] at H2 E
  clear hr1 hr2
  have BW := Lib.hid (((Below.refl w.heap.size w).alloc (Nat.le_refl _) (.cells #[.int .i64 k, .int .i64 a, .int .i64 n, .string sv, .int .i64 op, .slice A l.len c, .slice B fv.len d] 41)).alloc (Nat.le_of_lt (al_lt w _)) (.cells #[.int .i64 k', .int .i64 a', .int .i64 n', .string sv', .int .i64 op', .slice A' l'.len c', .slice B' fv'.len d'] 41))
  have KA := Lib.hid (blk_al (.cells #[.int .i64 k', .int .i64 a', .int .i64 n', .string sv', .int .i64 op', .slice A' l'.len c', .slice B' fv'.len d'] 41) (Blk.new w #[.int .i64 k, .int .i64 a, .int .i64 n, .string sv, .int .i64 op, .slice A l.len c, .slice B fv.len d] 41))
  have KB : Hid (Blk ((w.alloc (.cells #[.int .i64 k, .int .i64 a, .int .i64 n, .string sv, .int .i64 op, .slice A l.len c, .slice B fv.len d] 41)).alloc (.cells #[.int .i64 k', .int .i64 a', .int .i64 n', .string sv', .int .i64 op', .slice A' l'.len c', .slice B' fv'.len d'] 41)) (w.heap.size + 1) #[.int .i64 k', .int .i64 a', .int .i64 n', .string sv', .int .i64 op', .slice A' l'.len c', .slice B' fv'.len d'] 41) := Lib.hid (by have k := Blk.new (w.alloc (.cells #[.int .i64 k, .int .i64 a, .int .i64 n, .string sv, .int .i64 op, .slice A l.len c, .slice B fv.len d] 41)) #[.int .i64 k', .int .i64 a', .int .i64 n', .string sv', .int .i64 op', .slice A' l'.len c', .slice B' fv'.len d'] 41; rwa [World.size_alloc] at k)
  by_cases e1 : k = k'
  ·skip
   by_cases e2 : a = a'
   ·skip
    by_cases e3 : n = n'
    ·skip
     by_cases e4 : sv = sv'
     ·skip
      by_cases e5 : op = op'
      ·skip
       subst e1 e2 e3 e4 e5
       have E2 := Lib.hid (show R = (r1 && r2) by rw [E.out]; simp)
       clear E
       cases r1 with
       | true =>
        go_enter Tryz.func62, Tryz.ntmps62
        go_wp2_with (first
         |(go_at_call 61; refine (H1.out _ BW.out).mono ?_; rintro e w1 ⟨rfl, b1⟩; have B1 := Lib.hid (BW.out.trans (b1.mono BW.out.size)); have KA1 := Lib.hid (KA.out.below b1 KA.out.lt); have KB1 := Lib.hid (KB.out.below b1 KB.out.lt); clear b1; obtain ⟨⟨x0, x1, x2, x3, x4, x5, x6⟩, -⟩ := KA1.out.seven; obtain ⟨⟨y0, y1, y2, y3, y4, y5, y6⟩, -⟩ := KB1.out.seven)
         |(go_at_call 114; refine (H2.out _ B1.out).mono ?_; rintro e w2 ⟨rfl, b2⟩; have B2 := Lib.hid (B1.out.trans (b2.mono B1.out.size)); have KA2 := Lib.hid (KA1.out.below b2 KA1.out.lt); have KB2 := Lib.hid (KB1.out.below b2 KB1.out.lt); clear b2; obtain ⟨⟨x0, x1, x2, x3, x4, x5, x6⟩, -⟩ := KA2.out.seven; obtain ⟨⟨y0, y1, y2, y3, y4, y5, y6⟩, -⟩ := KB2.out.seven))
        go_ret
        exact ⟨by rw [E2.out]; rfl, B2.out⟩
       | false =>
        go_enter Tryz.func62, Tryz.ntmps62
        go_wp2_with (first
         |(go_at_call 61; refine (H1.out _ BW.out).mono ?_; rintro e w1 ⟨rfl, b1⟩; have B1 := Lib.hid (BW.out.trans (b1.mono BW.out.size)); have KA1 := Lib.hid (KA.out.below b1 KA.out.lt); have KB1 := Lib.hid (KB.out.below b1 KB.out.lt); clear b1; obtain ⟨⟨x0, x1, x2, x3, x4, x5, x6⟩, -⟩ := KA1.out.seven; obtain ⟨⟨y0, y1, y2, y3, y4, y5, y6⟩, -⟩ := KB1.out.seven))
        go_ret
        exact ⟨by rw [E2.out]; rfl, B1.out⟩
      ·have b1 : (op == op') = false := by rw [beq_eq_false_iff_ne]; exact e5
       have E2 := Lib.hid (show R = false by rw [E.out]; simp [e5])
       subst e1 e2 e3 e4
       clear E H1 H2
       go_enter Tryz.func62, Tryz.ntmps62
       go_wp2_with fail
       go_ret
       exact ⟨by rw [E2.out]; rfl, BW.out⟩
     ·have b1 : (sv.toList == sv'.toList) = false := by rw [beq_eq_false_iff_ne]; exact fun z => e4 ((tl_eq sv sv').1 z)
      have E2 := Lib.hid (show R = false by rw [E.out]; simp [e4])
      subst e1 e2 e3
      clear E H1 H2
      go_enter Tryz.func62, Tryz.ntmps62
      go_wp2_with fail
      go_ret
      exact ⟨by rw [E2.out]; rfl, BW.out⟩
    ·have b1 : (n == n') = false := by rw [beq_eq_false_iff_ne]; exact e3
     have E2 := Lib.hid (show R = false by rw [E.out]; simp [e3])
     subst e1 e2
     clear E H1 H2
     go_enter Tryz.func62, Tryz.ntmps62
     go_wp2_with fail
     go_ret
     exact ⟨by rw [E2.out]; rfl, BW.out⟩
   ·have b1 : (a == a') = false := by rw [beq_eq_false_iff_ne]; exact e2
    have E2 := Lib.hid (show R = false by rw [E.out]; simp [e2])
    subst e1
    clear E H1 H2
    go_enter Tryz.func62, Tryz.ntmps62
    go_wp2_with fail
    go_ret
    exact ⟨by rw [E2.out]; rfl, BW.out⟩
  ·have b1 : (k == k') = false := by rw [beq_eq_false_iff_ne]; exact e1
   have E2 := Lib.hid (show R = false by rw [E.out]; simp [e1])
   clear E H1 H2
   go_enter Tryz.func62, Tryz.ntmps62
   go_wp2_with fail
   go_ret
   exact ⟨by rw [E2.out]; rfl, BW.out⟩
 ·intro ps b hb fit y w P Q cs ds fy rd rd2 hz
  obtain ⟨v0, v1, rfl, h1, h2⟩ := rd
  obtain ⟨qs, b', u0, u1, rfl, rfl, g1, g2⟩ := Rd.is_f rd2 hz.symm
  obtain ⟨A, c, rfl⟩ := strs_slice h1
  obtain ⟨B, d, rfl⟩ := sl_slice h2
  obtain ⟨A', c', rfl⟩ := strs_slice g1
  obtain ⟨B', d', rfl⟩ := sl_slice g2
  have H1 := Lib.hid (fun w1 (k : Below w.heap.size w w1) => equal_str w1 P Q ps qs _ _ (Strs.bel k h1) (Strs.bel k g1) fit.1.1)
  have H2 := Lib.hid (fun w1 (k : Below w.heap.size w w1) => sm_any (P := P) (Q := Q) fit.1.2 fy.1.2 hb (Sl.bel k h2) (Sl.bel k g2))
  clear h1 h2 hb fit fy g1 g2 rd2 hz
  have E := Lib.hid (show (X.f ps b).same (.f qs b') = (decide (ps = qs) && b.same b') from rfl)
  show Calls _ _ _ _ (SR ((X.f ps b).same (.f qs b')) w)
  generalize (X.f ps b).same (.f qs b') = R at *
  obtain ⟨r1, hr1⟩ : ∃ r, decide (ps = qs) = r := ⟨_, rfl⟩
  obtain ⟨r2, hr2⟩ : ∃ r, b.same b' = r := ⟨_, rfl⟩
  rw [hr1] at H1 E
  rw [hr2] at H2 E
  clear hr1 hr2
  have E2 := E
  have BW := Lib.hid (((Below.refl w.heap.size w).alloc (Nat.le_refl _) (.cells #[.slice A ps.length c, .slice B b.len d] 94)).alloc (Nat.le_of_lt (al_lt w _)) (.cells #[.slice A' qs.length c', .slice B' b'.len d'] 94))
  have KA := Lib.hid (blk_al (.cells #[.slice A' qs.length c', .slice B' b'.len d'] 94) (Blk.new w #[.slice A ps.length c, .slice B b.len d] 94))
  have KB : Hid (Blk ((w.alloc (.cells #[.slice A ps.length c, .slice B b.len d] 94)).alloc (.cells #[.slice A' qs.length c', .slice B' b'.len d'] 94)) (w.heap.size + 1) #[.slice A' qs.length c', .slice B' b'.len d'] 94) := Lib.hid (by have k := Blk.new (w.alloc (.cells #[.slice A ps.length c, .slice B b.len d] 94)) #[.slice A' qs.length c', .slice B' b'.len d'] 94; rwa [World.size_alloc] at k)
  obtain ⟨⟨x0, x1⟩, -⟩ := KA.out.pair
  obtain ⟨⟨y0, y1⟩, -⟩ := KB.out.pair
  cases r1 with
  | true =>
   go_enter Tryz.func115, Tryz.ntmps115
   go_wp2_with (first
    |(go_at_call 60; refine (H1.out _ BW.out).mono ?_; rintro e w1 ⟨rfl, b1⟩; have B1 := Lib.hid (BW.out.trans (b1.mono BW.out.size)); have KA1 := Lib.hid (KA.out.below b1 KA.out.lt); have KB1 := Lib.hid (KB.out.below b1 KB.out.lt); clear b1; obtain ⟨⟨x0, x1⟩, -⟩ := KA1.out.pair; obtain ⟨⟨y0, y1⟩, -⟩ := KB1.out.pair)
    |(go_at_call 11; refine (H2.out _ B1.out).mono ?_; rintro e w2 ⟨rfl, b2⟩; have B2 := Lib.hid (B1.out.trans (b2.mono B1.out.size)); have KA2 := Lib.hid (KA1.out.below b2 KA1.out.lt); have KB2 := Lib.hid (KB1.out.below b2 KB1.out.lt); clear b2; obtain ⟨⟨x0, x1⟩, -⟩ := KA2.out.pair; obtain ⟨⟨y0, y1⟩, -⟩ := KB2.out.pair))
   go_ret
   exact ⟨by rw [E2.out]; rfl, B2.out⟩
  | false =>
   go_enter Tryz.func115, Tryz.ntmps115
   go_wp2_with (first
    |(go_at_call 60; refine (H1.out _ BW.out).mono ?_; rintro e w1 ⟨rfl, b1⟩; have B1 := Lib.hid (BW.out.trans (b1.mono BW.out.size)); have KA1 := Lib.hid (KA.out.below b1 KA.out.lt); have KB1 := Lib.hid (KB.out.below b1 KB.out.lt); clear b1; obtain ⟨⟨x0, x1⟩, -⟩ := KA1.out.pair; obtain ⟨⟨y0, y1⟩, -⟩ := KB1.out.pair))
   go_ret
   exact ⟨by rw [E2.out]; rfl, B1.out⟩
 ·intro k a ns l b hl hb fit y w P Q cs ds fy rd rd2 hz
  obtain ⟨v2, v3, v4, rfl, h0, h1, h2⟩ := rd
  obtain ⟨k', a', ns', l', b', u2, u3, u4, rfl, rfl, g0, g1, g2⟩ := Rd.is_s rd2 hz.symm
  obtain ⟨N, nc, rfl⟩ := strs_slice h0
  obtain ⟨N', nc', rfl⟩ := strs_slice g0
  obtain ⟨A, c, rfl⟩ := sl_slice h1
  obtain ⟨B, d, rfl⟩ := sl_slice h2
  obtain ⟨A', c', rfl⟩ := sl_slice g1
  obtain ⟨B', d', rfl⟩ := sl_slice g2
  have H0 := Lib.hid (fun w1 (z : Below w.heap.size w w1) => equal_str w1 P Q ns ns' _ _ (Strs.bel z h0) (Strs.bel z g0) fit.1.1)
  have H1 := Lib.hid (fun w1 (z : Below w.heap.size w w1) => seq_e (P := P) (Q := Q) fit.1.2.1 fy.1.2.1 hl (Sl.bel z h1) (Sl.bel z g1))
  have H2 := Lib.hid (fun w1 (z : Below w.heap.size w w1) => seq_b (P := P) (Q := Q) fit.1.2.2 fy.1.2.2 hb (Sl.bel z h2) (Sl.bel z g2))
  clear h0 h1 h2 hl hb fit fy g0 g1 g2 rd2 hz
  have E := Lib.hid (show (X.s k a ns l b).same (.s k' a' ns' l' b') = (decide (k = k') && (decide (a = a') && (decide (ns = ns') && (l.same l' && b.same b')))) from rfl)
  show Calls _ _ _ _ (SR ((X.s k a ns l b).same (.s k' a' ns' l' b')) w)
  generalize (X.s k a ns l b).same (.s k' a' ns' l' b') = R at *
  obtain ⟨r0, hr0⟩ : ∃ r, decide (ns = ns') = r := ⟨_, rfl⟩
  obtain ⟨r1, hr1⟩ : ∃ r, l.same l' = r := ⟨_, rfl⟩
  obtain ⟨r2, hr2⟩ : ∃ r, b.same b' = r := ⟨_, rfl⟩
  rw [hr0] at H0 E
  rw [hr1] at H1 E
  rw [hr2] at H2 E
  clear hr0 hr1 hr2
  have BW := Lib.hid (((Below.refl w.heap.size w).alloc (Nat.le_refl _) (.cells #[.int .i64 k, .int .i64 a, .slice N ns.length nc, .slice A l.len c, .slice B b.len d] 34)).alloc (Nat.le_of_lt (al_lt w _)) (.cells #[.int .i64 k', .int .i64 a', .slice N' ns'.length nc', .slice A' l'.len c', .slice B' b'.len d'] 34))
  have KA := Lib.hid (blk_al (.cells #[.int .i64 k', .int .i64 a', .slice N' ns'.length nc', .slice A' l'.len c', .slice B' b'.len d'] 34) (Blk.new w #[.int .i64 k, .int .i64 a, .slice N ns.length nc, .slice A l.len c, .slice B b.len d] 34))
  have KB : Hid (Blk ((w.alloc (.cells #[.int .i64 k, .int .i64 a, .slice N ns.length nc, .slice A l.len c, .slice B b.len d] 34)).alloc (.cells #[.int .i64 k', .int .i64 a', .slice N' ns'.length nc', .slice A' l'.len c', .slice B' b'.len d'] 34)) (w.heap.size + 1) #[.int .i64 k', .int .i64 a', .slice N' ns'.length nc', .slice A' l'.len c', .slice B' b'.len d'] 34) := Lib.hid (by have k := Blk.new (w.alloc (.cells #[.int .i64 k, .int .i64 a, .slice N ns.length nc, .slice A l.len c, .slice B b.len d] 34)) #[.int .i64 k', .int .i64 a', .slice N' ns'.length nc', .slice A' l'.len c', .slice B' b'.len d'] 34; rwa [World.size_alloc] at k)
  obtain ⟨⟨x0, x1, x2, x3, x4⟩, -⟩ := KA.out.five
  obtain ⟨⟨y0, y1, y2, y3, y4⟩, -⟩ := KB.out.five
  by_cases e1 : k = k'
  ·skip
   by_cases e2 : a = a'
   ·skip
    subst e1 e2
    have E2 := Lib.hid (show R = (r0 && (r1 && r2)) by rw [E.out]; simp)
    clear E
    cases r0 with
    | true =>
     cases r1 with
     | true =>
      go_enter Tryz.func26, Tryz.ntmps26
      go_wp2_with (first
       |(go_at_call 60; refine (H0.out _ BW.out).mono ?_; rintro e w0 ⟨rfl, b0⟩; have B0 := Lib.hid (BW.out.trans (b0.mono BW.out.size)); have KA0 := Lib.hid (KA.out.below b0 KA.out.lt); have KB0 := Lib.hid (KB.out.below b0 KB.out.lt); clear b0; obtain ⟨⟨x0, x1, x2, x3, x4⟩, -⟩ := KA0.out.five; obtain ⟨⟨y0, y1, y2, y3, y4⟩, -⟩ := KB0.out.five)
       |(go_at_call 61; refine (H1.out _ B0.out).mono ?_; rintro e w1 ⟨rfl, b1⟩; have B1 := Lib.hid (B0.out.trans (b1.mono B0.out.size)); have KA1 := Lib.hid (KA0.out.below b1 KA0.out.lt); have KB1 := Lib.hid (KB0.out.below b1 KB0.out.lt); clear b1; obtain ⟨⟨x0, x1, x2, x3, x4⟩, -⟩ := KA1.out.five; obtain ⟨⟨y0, y1, y2, y3, y4⟩, -⟩ := KB1.out.five)
       |(go_at_call 63; refine (H2.out _ B1.out).mono ?_; rintro e w2 ⟨rfl, b2⟩; have B2 := Lib.hid (B1.out.trans (b2.mono B1.out.size)); have KA2 := Lib.hid (KA1.out.below b2 KA1.out.lt); have KB2 := Lib.hid (KB1.out.below b2 KB1.out.lt); clear b2; obtain ⟨⟨x0, x1, x2, x3, x4⟩, -⟩ := KA2.out.five; obtain ⟨⟨y0, y1, y2, y3, y4⟩, -⟩ := KB2.out.five))
      go_ret
      exact ⟨by rw [E2.out]; rfl, B2.out⟩
     | false =>
      go_enter Tryz.func26, Tryz.ntmps26
      go_wp2_with (first
       |(go_at_call 60; refine (H0.out _ BW.out).mono ?_; rintro e w0 ⟨rfl, b0⟩; have B0 := Lib.hid (BW.out.trans (b0.mono BW.out.size)); have KA0 := Lib.hid (KA.out.below b0 KA.out.lt); have KB0 := Lib.hid (KB.out.below b0 KB.out.lt); clear b0; obtain ⟨⟨x0, x1, x2, x3, x4⟩, -⟩ := KA0.out.five; obtain ⟨⟨y0, y1, y2, y3, y4⟩, -⟩ := KB0.out.five)
       |(go_at_call 61; refine (H1.out _ B0.out).mono ?_; rintro e w1 ⟨rfl, b1⟩; have B1 := Lib.hid (B0.out.trans (b1.mono B0.out.size)); have KA1 := Lib.hid (KA0.out.below b1 KA0.out.lt); have KB1 := Lib.hid (KB0.out.below b1 KB0.out.lt); clear b1; obtain ⟨⟨x0, x1, x2, x3, x4⟩, -⟩ := KA1.out.five; obtain ⟨⟨y0, y1, y2, y3, y4⟩, -⟩ := KB1.out.five))
      go_ret
      exact ⟨by rw [E2.out]; rfl, B1.out⟩
    | false =>
     go_enter Tryz.func26, Tryz.ntmps26
     go_wp2_with (first
      |(go_at_call 60; refine (H0.out _ BW.out).mono ?_; rintro e w0 ⟨rfl, b0⟩; have B0 := Lib.hid (BW.out.trans (b0.mono BW.out.size)); have KA0 := Lib.hid (KA.out.below b0 KA.out.lt); have KB0 := Lib.hid (KB.out.below b0 KB.out.lt); clear b0; obtain ⟨⟨x0, x1, x2, x3, x4⟩, -⟩ := KA0.out.five; obtain ⟨⟨y0, y1, y2, y3, y4⟩, -⟩ := KB0.out.five))
     go_ret
     exact ⟨by rw [E2.out]; rfl, B0.out⟩
   ·have b1 : (a == a') = false := by rw [beq_eq_false_iff_ne]; exact e2
    have E2 := Lib.hid (show R = false by rw [E.out]; simp [e2])
    subst e1
    clear E H0 H1 H2
    go_enter Tryz.func26, Tryz.ntmps26
    go_wp2_with fail
    go_ret
    exact ⟨by rw [E2.out]; rfl, BW.out⟩
  ·have b1 : (k == k') = false := by rw [beq_eq_false_iff_ne]; exact e1
   have E2 := Lib.hid (show R = false by rw [E.out]; simp [e1])
   clear E H0 H1 H2
   go_enter Tryz.func26, Tryz.ntmps26
   go_wp2_with fail
   go_ret
   exact ⟨by rw [E2.out]; rfl, BW.out⟩
 ·intro l hl fit y w P Q cs ds fy rd rd2 hz v u ev eu
  subst ev eu
  obtain ⟨v', e, h1⟩ := rd
  obtain rfl : v' = v := by injection e with e; injection e with e; exact e.symm
  obtain ⟨m, u', rfl, e2, g1⟩ := Rd.is_b rd2 hz.symm
  obtain rfl : u' = u := by injection e2 with e2; injection e2 with e2; exact e2.symm
  obtain ⟨A, c, rfl⟩ := sl_slice h1
  obtain ⟨B, d, rfl⟩ := sl_slice g1
  exact sm_any (P := P) (Q := Q) fit fy hl h1 g1
/-- Same, of any two trees whose rows are not too great. -/
theorem same_any {l m : X} {w : World} {P Q : Nat → Prop} {v u : Value} (hl : l.fit 100000) (hm : m.fit 100000) (h : Sl l.len (Rd w P l).row 5 v) (k : Sl m.len (Rd w Q m).row 5 u) : Calls Tryz.prog 11 #[v, u] w (SR (l.same m) w) := by
 obtain ⟨A, c, rfl⟩ := sl_slice h
 obtain ⟨B, d, rfl⟩ := sl_slice k
 exact sm_any hl hm (sameS_all l).2 h k
end Go.Proofs.YtbcjpnmakcmndaaGreatDoor
