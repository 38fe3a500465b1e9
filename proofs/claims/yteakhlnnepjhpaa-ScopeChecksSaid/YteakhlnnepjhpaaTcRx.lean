/- Trees in memory: a row's elements one by one; what kind an element is, by how many cells it has. -/
import Derived.Test.YteakhlnnepjhpaaKm
import Derived.Test.YteakhlnnepjhpaaKj
import Derived.Carry
namespace Go.Proofs.Yteakhlnnepjhpaa
open Go.RowKit PrM
set_option linter.unusedVariables false
def PrM.X.elems : X → List X
 | .cons h t => h :: t.elems
 | _ => []
theorem elems_len : ∀ x : X, x.elems.length = x.len
 | .cons _ t => by show t.elems.length + 1 = t.len + 1; rw [elems_len t]
 | .nil => rfl
 | .e .. => rfl
 | .f .. => rfl
 | .s .. => rfl
 | .blk _ => rfl
section
variable {w w' : World} {P Q : Nat → Prop}
theorem Rd.at : ∀ (x : X) (z : Nat) (A : Option Addr) (off i : Nat) (h : i < x.elems.length), (Rd w P x).row z A off →
  ∃ (p : Addr) (cs : Array Value), A = some p ∧ P p.block ∧ p.block < w.heap.size ∧ cs.size = z ∧ (∀ j u, cs[j]? = some u → w.cell? (p.add (off + i * z + j)) = some u) ∧ (Rd w P x.elems[i]).cells cs
 | .cons a t, z, A, off, 0, h, hr => by
  obtain ⟨⟨p, cs, e, hp, hl, hz, hc, hd⟩, -⟩ := hr
  exact ⟨p, cs, e, hp, hl, hz, fun j u hu => by rw [Nat.zero_mul, Nat.add_zero]; exact hc j u hu, hd⟩
 | .cons a t, z, A, off, i + 1, h, hr => by
  obtain ⟨p, cs, e, hp, hl, hz, hc, hd⟩ := Rd.at t z A (off + z) i (Nat.lt_of_succ_lt_succ h) hr.2
  exact ⟨p, cs, e, hp, hl, hz, fun j u hu => by rw [show off + (i + 1) * z + j = off + z + i * z + j by rw [Nat.add_mul]; omega]; exact hc j u hu, hd⟩
 | .nil, _, _, _, _, h, _ => absurd h (Nat.not_lt_zero _)
 | .e .., _, _, _, _, h, _ => absurd h (Nat.not_lt_zero _)
 | .f .., _, _, _, _, h, _ => absurd h (Nat.not_lt_zero _)
 | .s .., _, _, _, _, h, _ => absurd h (Nat.not_lt_zero _)
 | .blk _, _, _, _, _, h, _ => absurd h (Nat.not_lt_zero _)
theorem Rd.is_e {x : X} {cs : Array Value} (h : (Rd w P x).cells cs) (hz : cs.size = 7) : ∃ k a n s op l f v5 v6, x = .e k a n s op l f ∧ cs = #[.int .i64 k, .int .i64 a, .int .i64 n, .string s, .int .i64 op, v5, v6] ∧ Sl l.len (Rd w P l).row 7 v5 ∧ Sl f.len (Rd w P f).row 2 v6 := by
 cases x with
 | nil => exact h.elim
 | cons _ _ => exact h.elim
 | e k a n s op l f => obtain ⟨vl, vf, e, h1, h2⟩ := h; exact ⟨k, a, n, s, op, l, f, vl, vf, rfl, e, h1, h2⟩
 | f ps b => obtain ⟨vl, vf, rfl, -⟩ := h; exact absurd hz (by simp)
 | s k a ns l b => obtain ⟨vn, vl, vf, rfl, -⟩ := h; exact absurd hz (by simp)
 | blk l => obtain ⟨v, rfl, -⟩ := h; exact absurd hz (by simp)
theorem Rd.is_f {x : X} {cs : Array Value} (h : (Rd w P x).cells cs) (hz : cs.size = 2) : ∃ ps b v0 v1, x = .f ps b ∧ cs = #[v0, v1] ∧ Strs w P v0 ps ∧ Sl b.len (Rd w P b).row 5 v1 := by
 cases x with
 | nil => exact h.elim
 | cons _ _ => exact h.elim
 | e k a n s op l f => obtain ⟨vl, vf, rfl, -⟩ := h; exact absurd hz (by simp)
 | f ps b => obtain ⟨vl, vf, e, h1, h2⟩ := h; exact ⟨ps, b, vl, vf, rfl, e, h1, h2⟩
 | s k a ns l b => obtain ⟨vn, vl, vf, rfl, -⟩ := h; exact absurd hz (by simp)
 | blk l => obtain ⟨v, rfl, -⟩ := h; exact absurd hz (by simp)
theorem Rd.is_s {x : X} {cs : Array Value} (h : (Rd w P x).cells cs) (hz : cs.size = 5) : ∃ k a ns l b v2 v3 v4, x = .s k a ns l b ∧ cs = #[.int .i64 k, .int .i64 a, v2, v3, v4] ∧ Strs w P v2 ns ∧ Sl l.len (Rd w P l).row 7 v3 ∧ Sl b.len (Rd w P b).row 1 v4 := by
 cases x with
 | nil => exact h.elim
 | cons _ _ => exact h.elim
 | e k a n s op l f => obtain ⟨vl, vf, rfl, -⟩ := h; exact absurd hz (by simp)
 | f ps b => obtain ⟨vl, vf, rfl, -⟩ := h; exact absurd hz (by simp)
 | s k a ns l b => obtain ⟨vn, vl, vf, e, h1, h2, h3⟩ := h; exact ⟨k, a, ns, l, b, vn, vl, vf, rfl, e, h1, h2, h3⟩
 | blk l => obtain ⟨v, rfl, -⟩ := h; exact absurd hz (by simp)
theorem Rd.is_b {x : X} {cs : Array Value} (h : (Rd w P x).cells cs) (hz : cs.size = 1) : ∃ l v, x = .blk l ∧ cs = #[v] ∧ Sl l.len (Rd w P l).row 5 v := by
 cases x with
 | nil => exact h.elim
 | cons _ _ => exact h.elim
 | e k a n s op l f => obtain ⟨vl, vf, rfl, -⟩ := h; exact absurd hz (by simp)
 | f ps b => obtain ⟨vl, vf, rfl, -⟩ := h; exact absurd hz (by simp)
 | s k a ns l b => obtain ⟨vn, vl, vf, rfl, -⟩ := h; exact absurd hz (by simp)
 | blk l => obtain ⟨v, e, h1⟩ := h; exact ⟨l, v, rfl, e, h1⟩
theorem Sl.bel {x : X} {z : Nat} {v : Value} (b : Below w.heap.size w w') (h : Sl x.len (Rd w P x).row z v) : Sl x.len (Rd w' P x).row z v :=
 h.imp (Rd.move (Moves.of_below b (fun _ hk _ => hk)) x).2.1
theorem Rd.bel {x : X} {cs : Array Value} (b : Below w.heap.size w w') (h : (Rd w P x).cells cs) : (Rd w' P x).cells cs :=
 (Rd.move (Moves.of_below b (fun _ hk _ => hk)) x).1 _ h
theorem Strs.bel {l : List ByteArray} {v : Value} (b : Below w.heap.size w w') (h : Strs w P v l) : Strs w' P v l := h.move (Moves.of_below b (fun _ hk _ => hk))
/-- An element of a row: where it lies, what its cells are. -/
theorem Sl.at {x : X} {z n c i : Nat} {A : Option Addr} (h : Sl x.len (Rd w P x).row z (.slice A n c)) (hi : i < x.len) : ∃ (p : Addr) (cs : Array Value) (y : X), A = some p ∧ x.elems[i]? = some y ∧ cs.size = z ∧ (∀ j u, cs[j]? = some u → w.cell? (p.add (i * z + j)) = some u) ∧ (Rd w P y).cells cs := by
 obtain ⟨A', c', e, -, -, hr⟩ := h
 injection e with e1 e2 e3
 subst e1
 have hi' : i < x.elems.length := by rw [elems_len]; exact hi
 obtain ⟨p, cs, e, -, -, hz, hc, hd⟩ := Rd.at x z A 0 i hi' hr
 exact ⟨p, cs, x.elems[i], e, List.getElem?_eq_getElem hi', hz, fun j u hu => by have := hc j u hu; rwa [Nat.zero_add] at this, hd⟩
theorem Sl.len {x : X} {z n c : Nat} {A : Option Addr} (h : Sl x.len (Rd w P x).row z (.slice A n c)) : n = x.len ∧ n ≤ c ∧ (A = none → c = 0) := by
 obtain ⟨A', c', e, h1, h2, -⟩ := h
 injection e with e1 e2 e3
 subst e1 e2 e3
 exact ⟨rfl, h2, h1⟩
end
/-- What is said of each element of a row, by induction over the tree. -/
theorem X.all {S : X → Prop} (he : ∀ k a n s op l f, (∀ y ∈ l.elems, S y) → (∀ y ∈ f.elems, S y) → S (.e k a n s op l f)) (hf : ∀ ps b, (∀ y ∈ b.elems, S y) → S (.f ps b))
  (hs : ∀ k a ns l b, (∀ y ∈ l.elems, S y) → (∀ y ∈ b.elems, S y) → S (.s k a ns l b)) (hb : ∀ l, (∀ y ∈ l.elems, S y) → S (.blk l)) (hn : S .nil) (hc : ∀ h t, S (.cons h t)) (x : X) : S x ∧ ∀ y ∈ x.elems, S y := by
 induction x with
 | nil => exact ⟨hn, fun _ h => nomatch h⟩
 | cons h t a b =>
  refine ⟨hc h t, fun y hy => ?_⟩
  rcases List.mem_cons.1 hy with rfl | hy
  ·exact a.1
  ·exact b.2 y hy
 | e k a n s op l f u v => exact ⟨he k a n s op l f u.2 v.2, fun _ h => nomatch h⟩
 | f ps b u => exact ⟨hf ps b u.2, fun _ h => nomatch h⟩
 | s k a ns l b u v => exact ⟨hs k a ns l b u.2 v.2, fun _ h => nomatch h⟩
 | blk l u => exact ⟨hb l u.2, fun _ h => nomatch h⟩
theorem add_off {p : Addr} {k j : Nat} : (⟨(p.add k).block, (p.add k).off + (j + 1), none⟩ : Addr) = p.add (k + (j + 1)) := by
 rw [← add_add, show (p.add k).add (j + 1) = ⟨(p.add k).block, (p.add k).off + (j + 1), none⟩ by rw [Addr.add, if_neg (by omega)]]
theorem Sl.at7 {w : World} {P : Nat → Prop} {x : X} {n c i : Nat} {A : Option Addr} (h : Sl x.len (Rd w P x).row 7 (.slice A n c)) (hi : i < x.len) : ∃ (p : Addr) (y : X) (v0 v1 v2 v3 v4 v5 v6 : Value), A = some p ∧ x.elems[i]? = some y ∧ (w.cell? (p.add (i * 7)) = some v0 ∧ w.cell? ⟨(p.add (i * 7)).block, (p.add (i * 7)).off + 1, none⟩ = some v1 ∧ w.cell? ⟨(p.add (i * 7)).block, (p.add (i * 7)).off + 2, none⟩ = some v2 ∧ w.cell? ⟨(p.add (i * 7)).block, (p.add (i * 7)).off + 3, none⟩ = some v3 ∧ w.cell? ⟨(p.add (i * 7)).block, (p.add (i * 7)).off + 4, none⟩ = some v4 ∧ w.cell? ⟨(p.add (i * 7)).block, (p.add (i * 7)).off + 5, none⟩ = some v5 ∧ w.cell? ⟨(p.add (i * 7)).block, (p.add (i * 7)).off + 6, none⟩ = some v6) ∧ (Rd w P y).cells #[v0, v1, v2, v3, v4, v5, v6] := by
 obtain ⟨p, cs, y, e, hy, hz, hc, hd⟩ := Sl.at h hi
 have hd2 := hd
 obtain ⟨k, a, m, s, op, l, f, v5, v6, rfl, rfl, -⟩ := Rd.is_e hd hz
 refine ⟨p, _, _, _, _, _, _, _, _, e, hy, ⟨hc 0 _ rfl, by rw [add_off]; exact hc 1 _ rfl, by rw [add_off]; exact hc 2 _ rfl, by rw [add_off]; exact hc 3 _ rfl, by rw [add_off]; exact hc 4 _ rfl, by rw [add_off]; exact hc 5 _ rfl, by rw [add_off]; exact hc 6 _ rfl⟩, hd2⟩
theorem Sl.at5 {w : World} {P : Nat → Prop} {x : X} {n c i : Nat} {A : Option Addr} (h : Sl x.len (Rd w P x).row 5 (.slice A n c)) (hi : i < x.len) : ∃ (p : Addr) (y : X) (v0 v1 v2 v3 v4 : Value), A = some p ∧ x.elems[i]? = some y ∧ (w.cell? (p.add (i * 5)) = some v0 ∧ w.cell? ⟨(p.add (i * 5)).block, (p.add (i * 5)).off + 1, none⟩ = some v1 ∧ w.cell? ⟨(p.add (i * 5)).block, (p.add (i * 5)).off + 2, none⟩ = some v2 ∧ w.cell? ⟨(p.add (i * 5)).block, (p.add (i * 5)).off + 3, none⟩ = some v3 ∧ w.cell? ⟨(p.add (i * 5)).block, (p.add (i * 5)).off + 4, none⟩ = some v4) ∧ (Rd w P y).cells #[v0, v1, v2, v3, v4] := by
 obtain ⟨p, cs, y, e, hy, hz, hc, hd⟩ := Sl.at h hi
 have hd2 := hd
 obtain ⟨k, a, ns, l, b, v2, v3, v4, rfl, rfl, -⟩ := Rd.is_s hd hz
 refine ⟨p, _, _, _, _, _, _, e, hy, ⟨hc 0 _ rfl, by rw [add_off]; exact hc 1 _ rfl, by rw [add_off]; exact hc 2 _ rfl, by rw [add_off]; exact hc 3 _ rfl, by rw [add_off]; exact hc 4 _ rfl⟩, hd2⟩
theorem Sl.at2 {w : World} {P : Nat → Prop} {x : X} {n c i : Nat} {A : Option Addr} (h : Sl x.len (Rd w P x).row 2 (.slice A n c)) (hi : i < x.len) : ∃ (p : Addr) (y : X) (v0 v1 : Value), A = some p ∧ x.elems[i]? = some y ∧ (w.cell? (p.add (i * 2)) = some v0 ∧ w.cell? ⟨(p.add (i * 2)).block, (p.add (i * 2)).off + 1, none⟩ = some v1) ∧ (Rd w P y).cells #[v0, v1] := by
 obtain ⟨p, cs, y, e, hy, hz, hc, hd⟩ := Sl.at h hi
 have hd2 := hd
 obtain ⟨ps, b, v0, v1, rfl, rfl, -⟩ := Rd.is_f hd hz
 refine ⟨p, _, _, _, e, hy, ⟨hc 0 _ rfl, by rw [add_off]; exact hc 1 _ rfl⟩, hd2⟩
theorem Sl.at1 {w : World} {P : Nat → Prop} {x : X} {n c i : Nat} {A : Option Addr} (h : Sl x.len (Rd w P x).row 1 (.slice A n c)) (hi : i < x.len) : ∃ (p : Addr) (y : X) (v0 : Value), A = some p ∧ x.elems[i]? = some y ∧ (w.cell? (p.add (i * 1)) = some v0) ∧ (Rd w P y).cells #[v0] := by
 obtain ⟨p, cs, y, e, hy, hz, hc, hd⟩ := Sl.at h hi
 have hd2 := hd
 obtain ⟨l, v, rfl, rfl, -⟩ := Rd.is_b hd hz
 exact ⟨p, _, _, e, hy, hc 0 _ rfl, hd2⟩
end Go.Proofs.Yteakhlnnepjhpaa
