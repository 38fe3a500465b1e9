/- Texts of one proof behind one another: TcR, TcC, TcD. -/
import Derived.Test.YtbcjpnmakcmndaaGreatDoorKm
import Derived.Test.YtbcjpnmakcmndaaGreatDoorKj
import Derived.Carry
import Derived.Deep.RegionHeld3
/- Trees in memory: a row's elements one by one; what kind an element is, by how many cells it has. -/
namespace Go.Proofs.YtbcjpnmakcmndaaGreatDoor
open Go.RowKit PrM
set_option linter.unusedVariables false
def PrM.X.elems : X → List X
 | .cons h t => h :: t.elems
 | _ => []
theorem elems_len : ∀ x : X, x.elems.length = x.len
 | .cons _ t => by show t.elems.length + 1 = t.len + 1; rw [elems_len t]
 | .nil => rfl
 | .e .. => rfl
 | .f .. => rfl
 | .s .. => rfl
 | .blk _ => rfl
section
variable {w w' : World} {P Q : Nat → Prop}
theorem Rd.at : ∀ (x : X) (z : Nat) (A : Option Addr) (off i : Nat) (h : i < x.elems.length), (Rd w P x).row z A off →
  ∃ (p : Addr) (cs : Array Value), A = some p ∧ P p.block ∧ p.block < w.heap.size ∧ cs.size = z ∧ (∀ j u, cs[j]? = some u → w.cell? (p.add (off + i * z + j)) = some u) ∧ (Rd w P x.elems[i]).cells cs
 | .cons a t, z, A, off, 0, h, hr => by
  obtain ⟨⟨p, cs, e, hp, hl, hz, hc, hd⟩, -⟩ := hr
  exact ⟨p, cs, e, hp, hl, hz, fun j u hu => by rw [Nat.zero_mul, Nat.add_zero]; exact hc j u hu, hd⟩
 | .cons a t, z, A, off, i + 1, h, hr => by
  obtain ⟨p, cs, e, hp, hl, hz, hc, hd⟩ := Rd.at t z A (off + z) i (Nat.lt_of_succ_lt_succ h) hr.2
  exact ⟨p, cs, e, hp, hl, hz, fun j u hu => by rw [show off + (i + 1) * z + j = off + z + i * z + j by rw [Nat.add_mul]; omega]; exact hc j u hu, hd⟩
 | .nil, _, _, _, _, h, _ => absurd h (Nat.not_lt_zero _)
 | .e .., _, _, _, _, h, _ => absurd h (Nat.not_lt_zero _)
 | .f .., _, _, _, _, h, _ => absurd h (Nat.not_lt_zero _)
 | .s .., _, _, _, _, h, _ => absurd h (Nat.not_lt_zero _)
 | .blk _, _, _, _, _, h, _ => absurd h (Nat.not_lt_zero _)
theorem Rd.is_e {x : X} {cs : Array Value} (h : (Rd w P x).cells cs) (hz : cs.size = 7) : ∃ k a n s op l f v5 v6, x = .e k a n s op l f ∧ cs = #[.int .i64 k, .int .i64 a, .int .i64 n, .string s, .int .i64 op, v5, v6] ∧ Sl l.len (Rd w P l).row 7 v5 ∧ Sl f.len (Rd w P f).row 2 v6 := by
 cases x with
 | nil => exact h.elim
 | cons _ _ => exact h.elim
 | e k a n s op l f => obtain ⟨vl, vf, e, h1, h2⟩ := h; exact ⟨k, a, n, s, op, l, f, vl, vf, rfl, e, h1, h2⟩
 | f ps b => obtain ⟨vl, vf, rfl, -⟩ := h; exact absurd hz (by simp)
 | s k a ns l b => obtain ⟨vn, vl, vf, rfl, -⟩ := h; exact absurd hz (by simp)
 | blk l => obtain ⟨v, rfl, -⟩ := h; exact absurd hz (by simp)
theorem Rd.is_f {x : X} {cs : Array Value} (h : (Rd w P x).cells cs) (hz : cs.size = 2) : ∃ ps b v0 v1, x = .f ps b ∧ cs = #[v0, v1] ∧ Strs w P v0 ps ∧ Sl b.len (Rd w P b).row 5 v1 := by
 cases x with
 | nil => exact h.elim
 | cons _ _ => exact h.elim
 | e k a n s op l f => obtain ⟨vl, vf, rfl, -⟩ := h; exact absurd hz (by simp)
 | f ps b => obtain ⟨vl, vf, e, h1, h2⟩ := h; exact ⟨ps, b, vl, vf, rfl, e, h1, h2⟩
 | s k a ns l b => obtain ⟨vn, vl, vf, rfl, -⟩ := h; exact absurd hz (by simp)
 | blk l => obtain ⟨v, rfl, -⟩ := h; exact absurd hz (by simp)
theorem Rd.is_s {x : X} {cs : Array Value} (h : (Rd w P x).cells cs) (hz : cs.size = 5) : ∃ k a ns l b v2 v3 v4, x = .s k a ns l b ∧ cs = #[.int .i64 k, .int .i64 a, v2, v3, v4] ∧ Strs w P v2 ns ∧ Sl l.len (Rd w P l).row 7 v3 ∧ Sl b.len (Rd w P b).row 1 v4 := by
 cases x with
 | nil => exact h.elim
 | cons _ _ => exact h.elim
 | e k a n s op l f => obtain ⟨vl, vf, rfl, -⟩ := h; exact absurd hz (by simp)
 | f ps b => obtain ⟨vl, vf, rfl, -⟩ := h; exact absurd hz (by simp)
 | s k a ns l b => obtain ⟨vn, vl, vf, e, h1, h2, h3⟩ := h; exact ⟨k, a, ns, l, b, vn, vl, vf, rfl, e, h1, h2, h3⟩
 | blk l => obtain ⟨v, rfl, -⟩ := h; exact absurd hz (by simp)
theorem Rd.is_b {x : X} {cs : Array Value} (h : (Rd w P x).cells cs) (hz : cs.size = 1) : ∃ l v, x = .blk l ∧ cs = #[v] ∧ Sl l.len (Rd w P l).row 5 v := by
 cases x with
 | nil => exact h.elim
 | cons _ _ => exact h.elim
 | e k a n s op l f => obtain ⟨vl, vf, rfl, -⟩ := h; exact absurd hz (by simp)
 | f ps b => obtain ⟨vl, vf, rfl, -⟩ := h; exact absurd hz (by simp)
 | s k a ns l b => obtain ⟨vn, vl, vf, rfl, -⟩ := h; exact absurd hz (by simp)
 | blk l => obtain ⟨v, e, h1⟩ := h; exact ⟨l, v, rfl, e, h1⟩
theorem Sl.bel {x : X} {z : Nat} {v : Value} (b : Below w.heap.size w w') (h : Sl x.len (Rd w P x).row z v) : Sl x.len (Rd w' P x).row z v :=
 h.imp (Rd.move (Moves.of_below b (fun _ hk _ => hk)) x).2.1
theorem Rd.bel {x : X} {cs : Array Value} (b : Below w.heap.size w w') (h : (Rd w P x).cells cs) : (Rd w' P x).cells cs :=
 (Rd.move (Moves.of_below b (fun _ hk _ => hk)) x).1 _ h
theorem Strs.bel {l : List ByteArray} {v : Value} (b : Below w.heap.size w w') (h : Strs w P v l) : Strs w' P v l := h.move (Moves.of_below b (fun _ hk _ => hk))
/-- An element of a row: where it lies, what its cells are. -/
theorem Sl.at {x : X} {z n c i : Nat} {A : Option Addr} (h : Sl x.len (Rd w P x).row z (.slice A n c)) (hi : i < x.len) : ∃ (p : Addr) (cs : Array Value) (y : X), A = some p ∧ x.elems[i]? = some y ∧ cs.size = z ∧ (∀ j u, cs[j]? = some u → w.cell? (p.add (i * z + j)) = some u) ∧ (Rd w P y).cells cs := by
 obtain ⟨A', c', e, -, -, hr⟩ := h
 injection e with e1 e2 e3
 subst e1
 have hi' : i < x.elems.length := by rw [elems_len]; exact hi
 obtain ⟨p, cs, e, -, -, hz, hc, hd⟩ := Rd.at x z A 0 i hi' hr
 exact ⟨p, cs, x.elems[i], e, List.getElem?_eq_getElem hi', hz, fun j u hu => by have := hc j u hu; rwa [Nat.zero_add] at this, hd⟩
theorem Sl.len {x : X} {z n c : Nat} {A : Option Addr} (h : Sl x.len (Rd w P x).row z (.slice A n c)) : n = x.len ∧ n ≤ c ∧ (A = none → c = 0) := by
 obtain ⟨A', c', e, h1, h2, -⟩ := h
 injection e with e1 e2 e3
 subst e1 e2 e3
 exact ⟨rfl, h2, h1⟩
end
/-- What is said of each element of a row, by induction over the tree. -/
theorem X.all {S : X → Prop} (he : ∀ k a n s op l f, (∀ y ∈ l.elems, S y) → (∀ y ∈ f.elems, S y) → S (.e k a n s op l f)) (hf : ∀ ps b, (∀ y ∈ b.elems, S y) → S (.f ps b))
  (hs : ∀ k a ns l b, (∀ y ∈ l.elems, S y) → (∀ y ∈ b.elems, S y) → S (.s k a ns l b)) (hb : ∀ l, (∀ y ∈ l.elems, S y) → S (.blk l)) (hn : S .nil) (hc : ∀ h t, S (.cons h t)) (x : X) : S x ∧ ∀ y ∈ x.elems, S y := by
 induction x with
 | nil => exact ⟨hn, fun _ h => nomatch h⟩
 | cons h t a b =>
  refine ⟨hc h t, fun y hy => ?_⟩
  rcases List.mem_cons.1 hy with rfl | hy
  ·exact a.1
  ·exact b.2 y hy
 | e k a n s op l f u v => exact ⟨he k a n s op l f u.2 v.2, fun _ h => nomatch h⟩
 | f ps b u => exact ⟨hf ps b u.2, fun _ h => nomatch h⟩
 | s k a ns l b u v => exact ⟨hs k a ns l b u.2 v.2, fun _ h => nomatch h⟩
 | blk l u => exact ⟨hb l u.2, fun _ h => nomatch h⟩
theorem add_off {p : Addr} {k j : Nat} : (⟨(p.add k).block, (p.add k).off + (j + 1), none⟩ : Addr) = p.add (k + (j + 1)) := by
 rw [← add_add, show (p.add k).add (j + 1) = ⟨(p.add k).block, (p.add k).off + (j + 1), none⟩ by rw [Addr.add, if_neg (by omega)]]
theorem Sl.at7 {w : World} {P : Nat → Prop} {x : X} {n c i : Nat} {A : Option Addr} (h : Sl x.len (Rd w P x).row 7 (.slice A n c)) (hi : i < x.len) : ∃ (p : Addr) (y : X) (v0 v1 v2 v3 v4 v5 v6 : Value), A = some p ∧ x.elems[i]? = some y ∧ (w.cell? (p.add (i * 7)) = some v0 ∧ w.cell? ⟨(p.add (i * 7)).block, (p.add (i * 7)).off + 1, none⟩ = some v1 ∧ w.cell? ⟨(p.add (i * 7)).block, (p.add (i * 7)).off + 2, none⟩ = some v2 ∧ w.cell? ⟨(p.add (i * 7)).block, (p.add (i * 7)).off + 3, none⟩ = some v3 ∧ w.cell? ⟨(p.add (i * 7)).block, (p.add (i * 7)).off + 4, none⟩ = some v4 ∧ w.cell? ⟨(p.add (i * 7)).block, (p.add (i * 7)).off + 5, none⟩ = some v5 ∧ w.cell? ⟨(p.add (i * 7)).block, (p.add (i * 7)).off + 6, none⟩ = some v6) ∧ (Rd w P y).cells #[v0, v1, v2, v3, v4, v5, v6] := by
 obtain ⟨p, cs, y, e, hy, hz, hc, hd⟩ := Sl.at h hi
 have hd2 := hd
 obtain ⟨k, a, m, s, op, l, f, v5, v6, rfl, rfl, -⟩ := Rd.is_e hd hz
 refine ⟨p, _, _, _, _, _, _, _, _, e, hy, ⟨hc 0 _ rfl, by rw [add_off]; exact hc 1 _ rfl, by rw [add_off]; exact hc 2 _ rfl, by rw [add_off]; exact hc 3 _ rfl, by rw [add_off]; exact hc 4 _ rfl, by rw [add_off]; exact hc 5 _ rfl, by rw [add_off]; exact hc 6 _ rfl⟩, hd2⟩
theorem Sl.at5 {w : World} {P : Nat → Prop} {x : X} {n c i : Nat} {A : Option Addr} (h : Sl x.len (Rd w P x).row 5 (.slice A n c)) (hi : i < x.len) : ∃ (p : Addr) (y : X) (v0 v1 v2 v3 v4 : Value), A = some p ∧ x.elems[i]? = some y ∧ (w.cell? (p.add (i * 5)) = some v0 ∧ w.cell? ⟨(p.add (i * 5)).block, (p.add (i * 5)).off + 1, none⟩ = some v1 ∧ w.cell? ⟨(p.add (i * 5)).block, (p.add (i * 5)).off + 2, none⟩ = some v2 ∧ w.cell? ⟨(p.add (i * 5)).block, (p.add (i * 5)).off + 3, none⟩ = some v3 ∧ w.cell? ⟨(p.add (i * 5)).block, (p.add (i * 5)).off + 4, none⟩ = some v4) ∧ (Rd w P y).cells #[v0, v1, v2, v3, v4] := by
 obtain ⟨p, cs, y, e, hy, hz, hc, hd⟩ := Sl.at h hi
 have hd2 := hd
 obtain ⟨k, a, ns, l, b, v2, v3, v4, rfl, rfl, -⟩ := Rd.is_s hd hz
 refine ⟨p, _, _, _, _, _, _, e, hy, ⟨hc 0 _ rfl, by rw [add_off]; exact hc 1 _ rfl, by rw [add_off]; exact hc 2 _ rfl, by rw [add_off]; exact hc 3 _ rfl, by rw [add_off]; exact hc 4 _ rfl⟩, hd2⟩
theorem Sl.at2 {w : World} {P : Nat → Prop} {x : X} {n c i : Nat} {A : Option Addr} (h : Sl x.len (Rd w P x).row 2 (.slice A n c)) (hi : i < x.len) : ∃ (p : Addr) (y : X) (v0 v1 : Value), A = some p ∧ x.elems[i]? = some y ∧ (w.cell? (p.add (i * 2)) = some v0 ∧ w.cell? ⟨(p.add (i * 2)).block, (p.add (i * 2)).off + 1, none⟩ = some v1) ∧ (Rd w P y).cells #[v0, v1] := by
 obtain ⟨p, cs, y, e, hy, hz, hc, hd⟩ := Sl.at h hi
 have hd2 := hd
 obtain ⟨ps, b, v0, v1, rfl, rfl, -⟩ := Rd.is_f hd hz
 refine ⟨p, _, _, _, e, hy, ⟨hc 0 _ rfl, by rw [add_off]; exact hc 1 _ rfl⟩, hd2⟩
theorem Sl.at1 {w : World} {P : Nat → Prop} {x : X} {n c i : Nat} {A : Option Addr} (h : Sl x.len (Rd w P x).row 1 (.slice A n c)) (hi : i < x.len) : ∃ (p : Addr) (y : X) (v0 : Value), A = some p ∧ x.elems[i]? = some y ∧ (w.cell? (p.add (i * 1)) = some v0) ∧ (Rd w P y).cells #[v0] := by
 obtain ⟨p, cs, y, e, hy, hz, hc, hd⟩ := Sl.at h hi
 have hd2 := hd
 obtain ⟨l, v, rfl, rfl, -⟩ := Rd.is_b hd hz
 exact ⟨p, _, _, e, hy, hc 0 _ rfl, hd2⟩
end Go.Proofs.YtbcjpnmakcmndaaGreatDoor
/- Package tree: how many statements and expressions. -/
namespace Go.Proofs.YtbcjpnmakcmndaaGreatDoor
open Go.RowKit PrM
set_option linter.unusedVariables false
set_option linter.unusedSimpArgs false
def countL : List X → Int
 | [] => 0
 | a :: r => a.count + countL r
theorem row_count {w : World} {P : Nat → Prop} : ∀ (x : X) (z : Nat) (A : Option Addr) (off : Nat), (Rd w P x).row z A off → x.count = countL x.elems
 | .nil, _, _, _, _ => rfl
 | .cons a t, z, A, off, h => by show a.count + t.count = a.count + countL t.elems; rw [row_count t z A (off + z) h.2]
 | .e .., _, _, _, h => h.elim
 | .f .., _, _, _, h => h.elim
 | .s .., _, _, _, h => h.elim
 | .blk _, _, _, _, h => h.elim
theorem countL_take (l : List X) (i : Nat) (y : X) (h : l[i]? = some y) : countL (l.take (i + 1)) = countL (l.take i) + y.count := by
 induction l generalizing i with
 | nil => cases h
 | cons a r ih =>
  cases i with
  | zero =>
   have : a = y := by simpa using h
   subst this
   show a.count + countL (r.take 0) = countL [] + a.count
   rw [List.take_zero]
   show a.count + 0 = 0 + a.count
   omega
  | succ i =>
   show a.count + countL (r.take (i + 1)) = a.count + countL (r.take i) + y.count
   rw [ih i (by simpa using h)]
   omega
/-- What a count answers. -/
def CR (c : Int) (w : World) (e : Ending) (w' : World) : Prop := e = .returned (.int .i64 (wrap64 c)) ∧ Below w.heap.size w w'
theorem wrap_add (a b : Int) : wrap64 (wrap64 a + wrap64 b) = wrap64 (a + b) := by unfold wrap64; omega
abbrev wrapC (l : List X) : Int := wrap64 (countL l)
theorem wrapC_nil : wrapC [] = 0 := by show wrap64 0 = 0; unfold wrap64; omega
theorem boxT (w : World) (cs : Array Value) (C : Array Value) (t : TypeId) : ∃ w2, w2 = (w.alloc (.cells C t)).setRow w.heap.size cs ∧ Hid (Below w.heap.size w w2) ∧ Hid (Blk w2 w.heap.size cs t) ∧ Hid (w.heap.size < w2.heap.size) := by
 have k := blk_row (cs := cs) (Blk.new w C t)
 exact ⟨_, rfl, below_row ((Below.refl _ w).alloc (Nat.le_refl _) _) _ (Nat.le_refl _) _, k, k.lt⟩
theorem onesN {cs : Array Value} (h : ∀ u ∈ cs.toList, u.oneCell' = true) : cs.all (·.oneCell') = true := by
 rw [Array.all_eq_true]
 intro i hi
 exact h _ (by simp)
set_option maxRecDepth 20000 in
set_option maxHeartbeats 4000000 in
theorem total_e (w : World) (P : Nat → Prop) (x : X) (A : Option Addr) (n c : Nat) (h : Sl x.len (Rd w P x).row 7 (.slice A n c)) (hb : n ≤ 100000)
  (H : ∀ y ∈ x.elems, ∀ w1 (v0 v1 v2 v3 v4 v5 v6 : Value), (Rd w1 P y).cells #[v0, v1, v2, v3, v4, v5, v6] → Calls Tryz.prog 70 #[.agg #[v0, v1, v2, v3, v4, v5, v6]] w1 (CR y.count w1)) :
  Calls Tryz.prog 69 #[.slice A n c, .func (.func 70) #[] #[]] w (CR x.count w) := by
 have HX := Lib.hid h
 have HH := Lib.hid H
 have HN := Lib.hid (Sl.len h).1
 have EX : X.count x = countL x.elems := row_count x 7 A 0 (by obtain ⟨A', c', e, -, -, hr⟩ := h; injection e with e1; subst e1; exact hr)
 have HEX := Lib.hid EX
 have n0 : (0 : Int) ≤ (n : Int) := by omega
 have n1 : (n : Int) ≤ 100000 := by omega
 clear h H hb EX
 go_enter Tryz.func69, Tryz.ntmps69
 go_wp2_with fail
 go_loopw [5, 7, 10] (fun u5 u7 u10 wr => ∃ (i : Nat) (v : Value), u5 = .int .i64 (wrapC (x.elems.take i)) ∧ u7 = v ∧ u10 = .int .i64 (i : Int) ∧ i ≤ n ∧ Below w.heap.size w wr) (fun _ _ u10 _ => (n : Int).toNat - (intOf u10).toNat)
 case atStart => exact ⟨0, undef, by rw [List.take_zero, wrapC_nil], rfl, rfl, Nat.zero_le _, Below.refl _ _⟩
 case round =>
  obtain ⟨i, v, rfl, rfl, rfl, hi, hbl⟩ := hrel
  have HB := Lib.hid hbl
  have i0 : (0 : Int) ≤ (i : Int) := by omega
  have wi : wrap64 ((i : Int) + 1) = (i : Int) + 1 := by unfold wrap64; omega
  clear hbl
  by_cases hlt : i < n
  ·obtain ⟨p, y, v0, v1, v2, v3, v4, v5, v6, rfl, hy, ⟨c0, c1, c2, c3, c4, c5, c6⟩, rd⟩ := Sl.at7 (Sl.bel HB.out HX.out) (by rw [← HN.out]; exact hlt)
   have RD := Lib.hid rd
   have HC := Lib.hid (HH.out y (List.mem_of_getElem? hy))
   have HY := Lib.hid (countL_take x.elems i y hy)
   have hl1 : (i : Int) < (n : Int) := by omega
   have HLT := Lib.hid hlt
   have HBC := Lib.hid (Nat.le_refl wr.heap.size)
   clear hi hy rd hlt
   go_wp2_with (first
    |(refine wpList_store_row rfl 41 (.tmp 7) (.tmp 13) rfl wr.heap.size #[v0, v1, v2, v3, v4, v5, v6] rfl rfl 41 _ (Blk.new wr Z7 41) sizeE rfl (ones7 (Rd.one_cells _ _ RD.out)) ?_; obtain ⟨w2, hw, bb, K2, ss⟩ := boxT wr #[v0, v1, v2, v3, v4, v5, v6] Z7 41; rw [← hw]; clear hw ss; have HB2 := Lib.hid (HB.out.trans (bb.out.mono HB.out.size)); have RD2 := Lib.hid (Rd.bel bb.out RD.out); obtain ⟨⟨k0, k1, k2, k3, k4, k5, k6⟩, -⟩ := K2.out.seven; clear bb)
    |(refine wp_store_row 41 (.tmp 7) (.tmp 13) rfl wr.heap.size #[v0, v1, v2, v3, v4, v5, v6] rfl rfl 41 _ (Blk.new wr Z7 41) sizeE rfl (ones7 (Rd.one_cells _ _ RD.out)) ?_; obtain ⟨w2, hw, bb, K2, ss⟩ := boxT wr #[v0, v1, v2, v3, v4, v5, v6] Z7 41; rw [← hw]; clear hw ss; have HB2 := Lib.hid (HB.out.trans (bb.out.mono HB.out.size)); have RD2 := Lib.hid (Rd.bel bb.out RD.out); obtain ⟨⟨k0, k1, k2, k3, k4, k5, k6⟩, -⟩ := K2.out.seven; clear bb)
    |(go_at_call 70; refine (HC.out _ v0 v1 v2 v3 v4 v5 v6 RD2.out).mono ?_; rintro e w3 ⟨rfl, b3⟩; have HB3 := Lib.hid (HB2.out.trans (b3.mono HB2.out.size)); clear b3))
   refine ⟨⟨i + 1, _, ?_, rfl, ?_, ?_, ?_⟩, ?_⟩
   ·show _ = Value.int .i64 (wrap64 (countL (x.elems.take (i + 1))))
    rw [HY.out]
    show Value.int .i64 (wrap64 (wrap64 _ + wrap64 _)) = _
    rw [wrap_add]
   ·rfl
   ·have := HLT.out; omega
   ·exact HB3.out
   ·have := HLT.out; simp only [intOf]; omega
  ·have hl1 : ¬ (i : Int) < (n : Int) := by omega
   have e : i = n := by omega
   have HT : x.elems.take i = x.elems := List.take_of_length_le (by rw [elems_len, ← HN.out]; omega)
   have HT := Lib.hid HT
   clear hlt hi e
   go_wp2_with fail
   go_ret
   refine ⟨?_, HB.out⟩
   show Ending.returned (.int .i64 (wrapC x.elems)) = .returned (.int .i64 (wrap64 x.count))
   rw [HEX.out]
set_option maxRecDepth 20000 in
set_option maxHeartbeats 4000000 in
theorem total_f (w : World) (P : Nat → Prop) (x : X) (A : Option Addr) (n c : Nat) (h : Sl x.len (Rd w P x).row 2 (.slice A n c)) (hb : n ≤ 100000)
  (H : ∀ y ∈ x.elems, ∀ w1 (v0 v1 : Value), (Rd w1 P y).cells #[v0, v1] → Calls Tryz.prog 120 #[.agg #[v0, v1]] w1 (CR y.count w1)) :
  Calls Tryz.prog 119 #[.slice A n c, .func (.func 120) #[] #[]] w (CR x.count w) := by
 have HX := Lib.hid h
 have HH := Lib.hid H
 have HN := Lib.hid (Sl.len h).1
 have EX : X.count x = countL x.elems := row_count x 2 A 0 (by obtain ⟨A', c', e, -, -, hr⟩ := h; injection e with e1; subst e1; exact hr)
 have HEX := Lib.hid EX
 have n0 : (0 : Int) ≤ (n : Int) := by omega
 have n1 : (n : Int) ≤ 100000 := by omega
 clear h H hb EX
 go_enter Tryz.func119, Tryz.ntmps119
 go_wp2_with fail
 go_loopw [5, 7, 10] (fun u5 u7 u10 wr => ∃ (i : Nat) (v : Value), u5 = .int .i64 (wrapC (x.elems.take i)) ∧ u7 = v ∧ u10 = .int .i64 (i : Int) ∧ i ≤ n ∧ Below w.heap.size w wr) (fun _ _ u10 _ => (n : Int).toNat - (intOf u10).toNat)
 case atStart => exact ⟨0, undef, by rw [List.take_zero, wrapC_nil], rfl, rfl, Nat.zero_le _, Below.refl _ _⟩
 case round =>
  obtain ⟨i, v, rfl, rfl, rfl, hi, hbl⟩ := hrel
  have HB := Lib.hid hbl
  have i0 : (0 : Int) ≤ (i : Int) := by omega
  have wi : wrap64 ((i : Int) + 1) = (i : Int) + 1 := by unfold wrap64; omega
  clear hbl
  by_cases hlt : i < n
  ·obtain ⟨p, y, v0, v1, rfl, hy, ⟨c0, c1⟩, rd⟩ := Sl.at2 (Sl.bel HB.out HX.out) (by rw [← HN.out]; exact hlt)
   have RD := Lib.hid rd
   have HC := Lib.hid (HH.out y (List.mem_of_getElem? hy))
   have HY := Lib.hid (countL_take x.elems i y hy)
   have hl1 : (i : Int) < (n : Int) := by omega
   have HLT := Lib.hid hlt
   have HBC := Lib.hid (Nat.le_refl wr.heap.size)
   clear hi hy rd hlt
   go_wp2_with (first
    |(refine wpList_store_row rfl 94 (.tmp 7) (.tmp 13) rfl wr.heap.size #[v0, v1] rfl rfl 94 _ (Blk.new wr Z2 94) sizeF rfl (onesN (Rd.one_cells _ _ RD.out)) ?_; obtain ⟨w2, hw, bb, K2, ss⟩ := boxT wr #[v0, v1] Z2 94; rw [← hw]; clear hw ss; have HB2 := Lib.hid (HB.out.trans (bb.out.mono HB.out.size)); have RD2 := Lib.hid (Rd.bel bb.out RD.out); obtain ⟨⟨k0, k1⟩, -⟩ := K2.out.pair; clear bb)
    |(refine wp_store_row 94 (.tmp 7) (.tmp 13) rfl wr.heap.size #[v0, v1] rfl rfl 94 _ (Blk.new wr Z2 94) sizeF rfl (onesN (Rd.one_cells _ _ RD.out)) ?_; obtain ⟨w2, hw, bb, K2, ss⟩ := boxT wr #[v0, v1] Z2 94; rw [← hw]; clear hw ss; have HB2 := Lib.hid (HB.out.trans (bb.out.mono HB.out.size)); have RD2 := Lib.hid (Rd.bel bb.out RD.out); obtain ⟨⟨k0, k1⟩, -⟩ := K2.out.pair; clear bb)
    |(go_at_call 120; refine (HC.out _ v0 v1 RD2.out).mono ?_; rintro e w3 ⟨rfl, b3⟩; have HB3 := Lib.hid (HB2.out.trans (b3.mono HB2.out.size)); clear b3))
   refine ⟨⟨i + 1, _, ?_, rfl, ?_, ?_, ?_⟩, ?_⟩
   ·show _ = Value.int .i64 (wrap64 (countL (x.elems.take (i + 1))))
    rw [HY.out]
    show Value.int .i64 (wrap64 (wrap64 _ + wrap64 _)) = _
    rw [wrap_add]
   ·rfl
   ·have := HLT.out; omega
   ·exact HB3.out
   ·have := HLT.out; simp only [intOf]; omega
  ·have hl1 : ¬ (i : Int) < (n : Int) := by omega
   have e : i = n := by omega
   have HT : x.elems.take i = x.elems := List.take_of_length_le (by rw [elems_len, ← HN.out]; omega)
   have HT := Lib.hid HT
   clear hlt hi e
   go_wp2_with fail
   go_ret
   refine ⟨?_, HB.out⟩
   show Ending.returned (.int .i64 (wrapC x.elems)) = .returned (.int .i64 (wrap64 x.count))
   rw [HEX.out]
set_option maxRecDepth 20000 in
set_option maxHeartbeats 4000000 in
theorem total_s (w : World) (P : Nat → Prop) (x : X) (A : Option Addr) (n c : Nat) (h : Sl x.len (Rd w P x).row 5 (.slice A n c)) (hb : n ≤ 100000)
  (H : ∀ y ∈ x.elems, ∀ w1 (v0 v1 v2 v3 v4 : Value), (Rd w1 P y).cells #[v0, v1, v2, v3, v4] → Calls Tryz.prog 33 #[.agg #[v0, v1, v2, v3, v4]] w1 (CR y.count w1)) :
  Calls Tryz.prog 32 #[.slice A n c, .func (.func 33) #[] #[]] w (CR x.count w) := by
 have HX := Lib.hid h
 have HH := Lib.hid H
 have HN := Lib.hid (Sl.len h).1
 have EX : X.count x = countL x.elems := row_count x 5 A 0 (by obtain ⟨A', c', e, -, -, hr⟩ := h; injection e with e1; subst e1; exact hr)
 have HEX := Lib.hid EX
 have n0 : (0 : Int) ≤ (n : Int) := by omega
 have n1 : (n : Int) ≤ 100000 := by omega
 clear h H hb EX
 go_enter Tryz.func32, Tryz.ntmps32
 go_wp2_with fail
 go_loopw [5, 7, 10] (fun u5 u7 u10 wr => ∃ (i : Nat) (v : Value), u5 = .int .i64 (wrapC (x.elems.take i)) ∧ u7 = v ∧ u10 = .int .i64 (i : Int) ∧ i ≤ n ∧ Below w.heap.size w wr) (fun _ _ u10 _ => (n : Int).toNat - (intOf u10).toNat)
 case atStart => exact ⟨0, undef, by rw [List.take_zero, wrapC_nil], rfl, rfl, Nat.zero_le _, Below.refl _ _⟩
 case round =>
  obtain ⟨i, v, rfl, rfl, rfl, hi, hbl⟩ := hrel
  have HB := Lib.hid hbl
  have i0 : (0 : Int) ≤ (i : Int) := by omega
  have wi : wrap64 ((i : Int) + 1) = (i : Int) + 1 := by unfold wrap64; omega
  clear hbl
  by_cases hlt : i < n
  ·obtain ⟨p, y, v0, v1, v2, v3, v4, rfl, hy, ⟨c0, c1, c2, c3, c4⟩, rd⟩ := Sl.at5 (Sl.bel HB.out HX.out) (by rw [← HN.out]; exact hlt)
   have RD := Lib.hid rd
   have HC := Lib.hid (HH.out y (List.mem_of_getElem? hy))
   have HY := Lib.hid (countL_take x.elems i y hy)
   have hl1 : (i : Int) < (n : Int) := by omega
   have HLT := Lib.hid hlt
   have HBC := Lib.hid (Nat.le_refl wr.heap.size)
   clear hi hy rd hlt
   go_wp2_with (first
    |(refine wpList_store_row rfl 34 (.tmp 7) (.tmp 13) rfl wr.heap.size #[v0, v1, v2, v3, v4] rfl rfl 34 _ (Blk.new wr Z5 34) sizeSt rfl (onesN (Rd.one_cells _ _ RD.out)) ?_; obtain ⟨w2, hw, bb, K2, ss⟩ := boxT wr #[v0, v1, v2, v3, v4] Z5 34; rw [← hw]; clear hw ss; have HB2 := Lib.hid (HB.out.trans (bb.out.mono HB.out.size)); have RD2 := Lib.hid (Rd.bel bb.out RD.out); obtain ⟨⟨k0, k1, k2, k3, k4⟩, -⟩ := K2.out.five; clear bb)
    |(refine wp_store_row 34 (.tmp 7) (.tmp 13) rfl wr.heap.size #[v0, v1, v2, v3, v4] rfl rfl 34 _ (Blk.new wr Z5 34) sizeSt rfl (onesN (Rd.one_cells _ _ RD.out)) ?_; obtain ⟨w2, hw, bb, K2, ss⟩ := boxT wr #[v0, v1, v2, v3, v4] Z5 34; rw [← hw]; clear hw ss; have HB2 := Lib.hid (HB.out.trans (bb.out.mono HB.out.size)); have RD2 := Lib.hid (Rd.bel bb.out RD.out); obtain ⟨⟨k0, k1, k2, k3, k4⟩, -⟩ := K2.out.five; clear bb)
    |(go_at_call 33; refine (HC.out _ v0 v1 v2 v3 v4 RD2.out).mono ?_; rintro e w3 ⟨rfl, b3⟩; have HB3 := Lib.hid (HB2.out.trans (b3.mono HB2.out.size)); clear b3))
   refine ⟨⟨i + 1, _, ?_, rfl, ?_, ?_, ?_⟩, ?_⟩
   ·show _ = Value.int .i64 (wrap64 (countL (x.elems.take (i + 1))))
    rw [HY.out]
    show Value.int .i64 (wrap64 (wrap64 _ + wrap64 _)) = _
    rw [wrap_add]
   ·rfl
   ·have := HLT.out; omega
   ·exact HB3.out
   ·have := HLT.out; simp only [intOf]; omega
  ·have hl1 : ¬ (i : Int) < (n : Int) := by omega
   have e : i = n := by omega
   have HT : x.elems.take i = x.elems := List.take_of_length_le (by rw [elems_len, ← HN.out]; omega)
   have HT := Lib.hid HT
   clear hlt hi e
   go_wp2_with fail
   go_ret
   refine ⟨?_, HB.out⟩
   show Ending.returned (.int .i64 (wrapC x.elems)) = .returned (.int .i64 (wrap64 x.count))
   rw [HEX.out]
set_option maxRecDepth 20000 in
set_option maxHeartbeats 4000000 in
theorem total_b (w : World) (P : Nat → Prop) (x : X) (A : Option Addr) (n c : Nat) (h : Sl x.len (Rd w P x).row 1 (.slice A n c)) (hb : n ≤ 100000)
  (H : ∀ y ∈ x.elems, ∀ w1 (v0 : Value), (Rd w1 P y).cells #[v0] → Calls Tryz.prog 15 #[v0] w1 (CR y.count w1)) :
  Calls Tryz.prog 71 #[.slice A n c, .func (.func 15) #[] #[]] w (CR x.count w) := by
 have HX := Lib.hid h
 have HH := Lib.hid H
 have HN := Lib.hid (Sl.len h).1
 have EX : X.count x = countL x.elems := row_count x 1 A 0 (by obtain ⟨A', c', e, -, -, hr⟩ := h; injection e with e1; subst e1; exact hr)
 have HEX := Lib.hid EX
 have n0 : (0 : Int) ≤ (n : Int) := by omega
 have n1 : (n : Int) ≤ 100000 := by omega
 clear h H hb EX
 go_enter Tryz.func71, Tryz.ntmps71
 go_wp2_with fail
 go_loopw [5, 7, 10] (fun u5 u7 u10 wr => ∃ (i : Nat) (v : Value), u5 = .int .i64 (wrapC (x.elems.take i)) ∧ u7 = v ∧ u10 = .int .i64 (i : Int) ∧ i ≤ n ∧ Below w.heap.size w wr) (fun _ _ u10 _ => (n : Int).toNat - (intOf u10).toNat)
 case atStart => exact ⟨0, undef, by rw [List.take_zero, wrapC_nil], rfl, rfl, Nat.zero_le _, Below.refl _ _⟩
 case round =>
  obtain ⟨i, v, rfl, rfl, rfl, hi, hbl⟩ := hrel
  have HB := Lib.hid hbl
  have i0 : (0 : Int) ≤ (i : Int) := by omega
  have wi : wrap64 ((i : Int) + 1) = (i : Int) + 1 := by unfold wrap64; omega
  clear hbl
  by_cases hlt : i < n
  ·obtain ⟨p, y, v0, rfl, hy, c0, rd⟩ := Sl.at1 (Sl.bel HB.out HX.out) (by rw [← HN.out]; exact hlt)
   have RD := Lib.hid rd
   rw [Nat.mul_one] at c0
   have HC := Lib.hid (HH.out y (List.mem_of_getElem? hy))
   have HY := Lib.hid (countL_take x.elems i y hy)
   have hl1 : (i : Int) < (n : Int) := by omega
   have HLT := Lib.hid hlt
   have HBC := Lib.hid (Nat.le_refl wr.heap.size)
   clear hi hy rd hlt
   go_wp2_with (first
    |(go_at_call 15; refine (HC.out _ v0 RD.out).mono ?_; rintro e w3 ⟨rfl, b3⟩; have HB3 := Lib.hid (HB.out.trans (b3.mono HB.out.size)); clear b3))
   refine ⟨⟨i + 1, _, ?_, rfl, ?_, ?_, ?_⟩, ?_⟩
   ·show _ = Value.int .i64 (wrap64 (countL (x.elems.take (i + 1))))
    rw [HY.out]
    show Value.int .i64 (wrap64 (wrap64 _ + wrap64 _)) = _
    rw [wrap_add]
   ·rfl
   ·have := HLT.out; omega
   ·exact HB3.out
   ·have := HLT.out; simp only [intOf]; omega
  ·have hl1 : ¬ (i : Int) < (n : Int) := by omega
   have e : i = n := by omega
   have HT : x.elems.take i = x.elems := List.take_of_length_le (by rw [elems_len, ← HN.out]; omega)
   have HT := Lib.hid HT
   clear hlt hi e
   go_wp2_with fail
   go_ret
   refine ⟨?_, HB.out⟩
   show Ending.returned (.int .i64 (wrapC x.elems)) = .returned (.int .i64 (wrap64 x.count))
   rw [HEX.out]
end Go.Proofs.YtbcjpnmakcmndaaGreatDoor
/- Package tree: Count. -/
namespace Go.Proofs.YtbcjpnmakcmndaaGreatDoor
open Go.RowKit PrM
set_option linter.unusedVariables false
set_option linter.unusedSimpArgs false
theorem cell_in {W W' : World} {p : Addr} {v : Value} (b : Below W.heap.size W W') (h : W.cell? p = some v) : W'.cell? p = some v := by
 by_cases hk : p.block < W.heap.size
 ·rw [World.cell?_of_block (b.block p.block hk)]; exact h
 ·unfold World.cell? at h
  rw [Array.getElem?_eq_none (by omega)] at h
  cases h
abbrev fnv (k : FuncId) : Value := .func (.func k) #[] #[]
theorem fit_elems {n : Nat} : ∀ x : X, x.fit n → ∀ y ∈ x.elems, y.fit n
 | .cons a t, h, y, hy => by
  rcases List.mem_cons.1 hy with rfl | hy
  ·exact h.1
  ·exact fit_elems t h.2.1 y hy
 | .nil, _, _, h => nomatch h
 | .e .., _, _, h => nomatch h
 | .f .., _, _, h => nomatch h
 | .s .., _, _, h => nomatch h
 | .blk _, _, _, h => nomatch h
theorem sl_slice {w : World} {P : Nat → Prop} {x : X} {z : Nat} {v : Value} (h : Sl x.len (Rd w P x).row z v) : ∃ A c, v = .slice A x.len c := by
 obtain ⟨A, c, e, -⟩ := h
 exact ⟨A, c, e⟩
def CountS (x : X) : Prop := x.fit 100000 → ∀ (w : World) (P : Nat → Prop) (cs : Array Value), (Rd w P x).cells cs → match x with
 | .e .. => Calls Tryz.prog 70 #[.agg cs] w (CR x.count w)
 | .f .. => Calls Tryz.prog 120 #[.agg cs] w (CR x.count w)
 | .s .. => Calls Tryz.prog 33 #[.agg cs] w (CR x.count w)
 | .blk _ => ∀ v, cs = #[v] → Calls Tryz.prog 15 #[v] w (CR x.count w)
 | _ => True
section
variable {l : X} (hl : l.fit 100000) (H : ∀ y ∈ l.elems, CountS y)
include hl H
theorem tot_e {w : World} {P : Nat → Prop} {A : Option Addr} {c : Nat} (h : Sl l.len (Rd w P l).row 7 (.slice A l.len c)) : Calls Tryz.prog 69 #[.slice A l.len c, .func (.func 70) #[] #[]] w (CR l.count w) :=
 total_e w P l A l.len c h (X.fit_len l hl) fun y hy w1 v0 v1 v2 v3 v4 v5 v6 rd => by
  have k := H y hy (fit_elems l hl y hy) w1 P _ rd
  obtain ⟨_, _, _, _, _, _, _, _, _, rfl, -⟩ := Rd.is_e rd rfl
  exact k
theorem tot_f {w : World} {P : Nat → Prop} {A : Option Addr} {c : Nat} (h : Sl l.len (Rd w P l).row 2 (.slice A l.len c)) : Calls Tryz.prog 119 #[.slice A l.len c, .func (.func 120) #[] #[]] w (CR l.count w) :=
 total_f w P l A l.len c h (X.fit_len l hl) fun y hy w1 v0 v1 rd => by
  have k := H y hy (fit_elems l hl y hy) w1 P _ rd
  obtain ⟨_, _, _, _, rfl, -⟩ := Rd.is_f rd rfl
  exact k
theorem tot_s {w : World} {P : Nat → Prop} {A : Option Addr} {c : Nat} (h : Sl l.len (Rd w P l).row 5 (.slice A l.len c)) : Calls Tryz.prog 32 #[.slice A l.len c, .func (.func 33) #[] #[]] w (CR l.count w) :=
 total_s w P l A l.len c h (X.fit_len l hl) fun y hy w1 v0 v1 v2 v3 v4 rd => by
  have k := H y hy (fit_elems l hl y hy) w1 P _ rd
  obtain ⟨_, _, _, _, _, _, _, _, rfl, -⟩ := Rd.is_s rd rfl
  exact k
theorem tot_b {w : World} {P : Nat → Prop} {A : Option Addr} {c : Nat} (h : Sl l.len (Rd w P l).row 1 (.slice A l.len c)) : Calls Tryz.prog 71 #[.slice A l.len c, .func (.func 15) #[] #[]] w (CR l.count w) :=
 total_b w P l A l.len c h (X.fit_len l hl) fun y hy w1 v0 rd => by
  have k := H y hy (fit_elems l hl y hy) w1 P _ rd
  obtain ⟨_, _, rfl, -⟩ := Rd.is_b rd rfl
  exact k _ rfl
end
theorem cnt_any {l : X} {w : World} {P : Nat → Prop} {A : Option Addr} {c : Nat} (hl : l.fit 100000) (H : ∀ y ∈ l.elems, CountS y) (h : Sl l.len (Rd w P l).row 5 (.slice A l.len c)) : Calls Tryz.prog 15 #[.slice A l.len c] w (CR l.count w) := by
 have H1 := Lib.hid (tot_s hl H h)
 clear h H hl
 go_enter Tryz.func15, Tryz.ntmps15
 go_wp2_with (go_at_call 32; refine H1.out.mono ?_; rintro e w' ⟨rfl, hbc⟩; have HB := Lib.hid hbc; clear hbc)
 go_ret
 exact ⟨rfl, HB.out⟩
theorem wrap3 (a b : Int) : IntKind.i64.wrap (IntKind.i64.wrap (1 + wrap64 a) + wrap64 b) = wrap64 (1 + a + b) := by
 simp only [IntKind.wrap_i64]
 unfold wrap64
 omega
set_option maxRecDepth 20000 in
set_option maxHeartbeats 2000000 in
theorem countS_all (x : X) : CountS x ∧ ∀ y ∈ x.elems, CountS y := by
 refine X.all (S := CountS) ?_ ?_ ?_ ?_ (fun _ _ _ _ h => h.elim) (fun _ _ _ _ _ _ h => h.elim) x
 ·intro k a n s op l f hl hf fit w P cs rd
  obtain ⟨v5, v6, rfl, h1, h2⟩ := rd
  obtain ⟨A, c, rfl⟩ := sl_slice h1
  obtain ⟨B, d, rfl⟩ := sl_slice h2
  have H1 := Lib.hid (fun w1 (b : Below w.heap.size w w1) => tot_e (P := P) fit.1.1 hl (Sl.bel b h1))
  have H2 := Lib.hid (fun w1 (b : Below w.heap.size w w1) => tot_f (P := P) fit.1.2 hf (Sl.bel b h2))
  clear h1 h2 hl hf fit
  show Calls _ _ _ _ (CR (1 + l.count + f.count) w)
  go_enter Tryz.func70, Tryz.ntmps70
  go_wp2_with fail
  obtain ⟨S, hS⟩ : ∃ S : World → Prop, S = (fun W => W.cell? ⟨w.heap.size, 5, none⟩ = some (.slice A l.len c) ∧ W.cell? ⟨w.heap.size, 6, none⟩ = some (.slice B f.len d) ∧ Below w.heap.size w W) := ⟨_, rfl⟩
  have s0 : S (w.alloc (.cells #[.int .i64 k, .int .i64 a, .int .i64 n, .string s, .int .i64 op, .slice A l.len c, .slice B f.len d] 41)).drew := by
   rw [hS]
   obtain ⟨⟨q0, q1, q2, q3, q4, q5, q6⟩, -⟩ := (Blk.new w #[.int .i64 k, .int .i64 a, .int .i64 n, .string s, .int .i64 op, .slice A l.len c, .slice B f.len d] 41).seven
   exact ⟨q5, q6, ((Below.refl _ w).alloc (Nat.le_refl _) _).drew⟩
  have kp : ∀ W W', S W → Below W.heap.size W W' → S W' := fun W W' h b => by
   rw [hS] at h ⊢
   obtain ⟨h5, h6, h9⟩ := h
   exact ⟨cell_in b h5, cell_in b h6, below_then h9 b⟩
  have C0 := Lib.hid (fun W (h : S W) => H1.out W (by rw [hS] at h; exact h.2.2))
  have C1 := Lib.hid (fun W (h : S W) => H2.out W (by rw [hS] at h; exact h.2.2))
  rw [hS] at s0 kp C0 C1
  have S0 := Lib.hid s0
  have KP := Lib.hid kp
  clear s0 kp hS S
  have mixed : Tryz.prog.follows .mixedOrders = true := by kernel_rfl
  go_region_held3 (fun W => W.cell? ⟨w.heap.size, 5, none⟩ = some (.slice A l.len c) ∧ W.cell? ⟨w.heap.size, 6, none⟩ = some (.slice B f.len d) ∧ Below w.heap.size w W) (first | assumption | exact S0.out | exact KP.out _ _ (by assumption) (by assumption)) (first
   |(go_at_call 69; refine (C0.out _ (by assumption)).mono ?_; rintro e w' ⟨rfl, hbc⟩)
   |(go_at_call 119; refine (C1.out _ (by assumption)).mono ?_; rintro e w' ⟨rfl, hbc⟩))
  go_wp2_with fail
  rename_i hS2
  have HB2 := Lib.hid hS2.2.2
  clear hS2
  go_ret
  refine ⟨?_, HB2.out⟩
  show Ending.returned (.int .i64 (IntKind.i64.wrap (IntKind.i64.wrap (1 + wrap64 _) + wrap64 _))) = _
  rw [wrap3]
 ·intro ps b hb fit w P cs rd
  obtain ⟨v0, v1, rfl, h0, h1⟩ := rd
  obtain ⟨A, c, rfl⟩ := sl_slice h1
  have H1 := Lib.hid (fun w1 (k : Below w.heap.size w w1) => cnt_any (P := P) (l := b) fit.1.2 hb (Sl.bel k h1))
  clear h0 h1 hb fit
  show Calls _ _ _ _ (CR b.count w)
  go_enter Tryz.func120, Tryz.ntmps120
  have H2 := Lib.hid (H1.out (w.alloc (.cells #[v0, .slice A b.len c] 94)) ((Below.refl _ w).alloc (Nat.le_refl _) _))
  obtain ⟨⟨q0, q1⟩, -⟩ := (Blk.new w #[v0, .slice A b.len c] 94).pair
  go_wp2_with (go_at_call 15; refine H2.out.mono ?_; rintro e w' ⟨rfl, hbc⟩; have HB := Lib.hid (((Below.refl _ w).alloc (Nat.le_refl _) (.cells #[v0, .slice A b.len c] 94)).trans (hbc.mono (Nat.le_of_lt (al_lt w _)))); clear hbc)
  go_ret
  exact ⟨rfl, HB.out⟩
 ·intro k a ns l b hl hb fit w P cs rd
  obtain ⟨v2, v3, v4, rfl, h0, h1, h2⟩ := rd
  obtain ⟨A, c, rfl⟩ := sl_slice h1
  obtain ⟨B, d, rfl⟩ := sl_slice h2
  have H1 := Lib.hid (fun w1 (b : Below w.heap.size w w1) => tot_e (P := P) fit.1.2.1 hl (Sl.bel b h1))
  have H2 := Lib.hid (fun w1 (b : Below w.heap.size w w1) => tot_b (P := P) fit.1.2.2 hb (Sl.bel b h2))
  clear h0 h1 h2 hl hb fit
  show Calls _ _ _ _ (CR (1 + l.count + b.count) w)
  go_enter Tryz.func33, Tryz.ntmps33
  go_wp2_with fail
  obtain ⟨S, hS⟩ : ∃ S : World → Prop, S = (fun W => W.cell? ⟨w.heap.size, 3, none⟩ = some (.slice A l.len c) ∧ W.cell? ⟨w.heap.size, 4, none⟩ = some (.slice B b.len d) ∧ Below w.heap.size w W) := ⟨_, rfl⟩
  have s0 : S (w.alloc (.cells #[.int .i64 k, .int .i64 a, v2, .slice A l.len c, .slice B b.len d] 34)).drew := by
   rw [hS]
   obtain ⟨⟨q0, q1, q2, q3, q4⟩, -⟩ := (Blk.new w #[.int .i64 k, .int .i64 a, v2, .slice A l.len c, .slice B b.len d] 34).five
   exact ⟨q3, q4, ((Below.refl _ w).alloc (Nat.le_refl _) _).drew⟩
  have kp : ∀ W W', S W → Below W.heap.size W W' → S W' := fun W W' h b => by
   rw [hS] at h ⊢
   obtain ⟨h3, h4, h9⟩ := h
   exact ⟨cell_in b h3, cell_in b h4, below_then h9 b⟩
  have C0 := Lib.hid (fun W (h : S W) => H1.out W (by rw [hS] at h; exact h.2.2))
  have C1 := Lib.hid (fun W (h : S W) => H2.out W (by rw [hS] at h; exact h.2.2))
  rw [hS] at s0 kp C0 C1
  have S0 := Lib.hid s0
  have KP := Lib.hid kp
  clear s0 kp hS S
  have mixed : Tryz.prog.follows .mixedOrders = true := by kernel_rfl
  go_region_held3 (fun W => W.cell? ⟨w.heap.size, 3, none⟩ = some (.slice A l.len c) ∧ W.cell? ⟨w.heap.size, 4, none⟩ = some (.slice B b.len d) ∧ Below w.heap.size w W) (first | assumption | exact S0.out | exact KP.out _ _ (by assumption) (by assumption)) (first
   |(go_at_call 69; refine (C0.out _ (by assumption)).mono ?_; rintro e w' ⟨rfl, hbc⟩)
   |(go_at_call 71; refine (C1.out _ (by assumption)).mono ?_; rintro e w' ⟨rfl, hbc⟩))
  go_wp2_with fail
  rename_i hS2
  have HB2 := Lib.hid hS2.2.2
  clear hS2
  go_ret
  refine ⟨?_, HB2.out⟩
  show Ending.returned (.int .i64 (IntKind.i64.wrap (IntKind.i64.wrap (1 + wrap64 _) + wrap64 _))) = _
  rw [wrap3]
 ·intro l hl fit w P cs rd v ev
  subst ev
  obtain ⟨v', e, h1⟩ := rd
  obtain rfl : v' = v := by injection e with e; injection e with e; exact e.symm
  obtain ⟨A, c, rfl⟩ := sl_slice h1
  exact cnt_any (P := P) fit hl h1
/-- Count, of any tree whose rows are not too great. -/
theorem count_any {l : X} {w : World} {P : Nat → Prop} {v : Value} (hl : l.fit 100000) (h : Sl l.len (Rd w P l).row 5 v) : Calls Tryz.prog 15 #[v] w (CR l.count w) := by
 obtain ⟨A, c, rfl⟩ := sl_slice h
 exact cnt_any hl (countS_all l).2 h
end Go.Proofs.YtbcjpnmakcmndaaGreatDoor
