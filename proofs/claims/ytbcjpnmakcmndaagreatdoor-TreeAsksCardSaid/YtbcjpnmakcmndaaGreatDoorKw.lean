/- Texts of one proof behind one another: TcG, TcH. -/
import Derived.Test.YtbcjpnmakcmndaaGreatDoorKv
import Derived.Test.YtbcjpnmakcmndaaGreatDoorKo
import Derived.OwnWalk
/- Package tree: Bare: rows that are made. -/
namespace Go.Proofs.YtbcjpnmakcmndaaGreatDoor
open Go.RowKit PrM
set_option linter.unusedVariables false
set_option linter.unusedSimpArgs false
/-- A row's first elements, bare. -/
def takeB : X → Nat → X
 | .cons h t, i + 1 => .cons h.bare (takeB t i)
 | _, _ => .nil
theorem takeB_zero (x : X) : takeB x 0 = .nil := by cases x <;> rfl
theorem takeB_len : ∀ (x : X) (i : Nat), i ≤ x.elems.length → (takeB x i).len = i
 | .cons h t, i + 1, k => by show (takeB t i).len + 1 = i + 1; rw [takeB_len t i (Nat.le_of_succ_le_succ k)]
 | .cons h t, 0, k => rfl
 | .nil, 0, _ => rfl
 | .nil, i + 1, k => absurd k (Nat.not_succ_le_zero _)
 | .e .., 0, _ => rfl
 | .e .., i + 1, k => absurd k (Nat.not_succ_le_zero _)
 | .f .., 0, _ => rfl
 | .f .., i + 1, k => absurd k (Nat.not_succ_le_zero _)
 | .s .., 0, _ => rfl
 | .s .., i + 1, k => absurd k (Nat.not_succ_le_zero _)
 | .blk _, 0, _ => rfl
 | .blk _, i + 1, k => absurd k (Nat.not_succ_le_zero _)
theorem takeB_step : ∀ (x : X) (i : Nat) (y : X), x.elems[i]? = some y → takeB x (i + 1) = (takeB x i).snoc y.bare
 | .cons h t, 0, y, k => by
  have : h = y := by simpa [X.elems] using k
  subst this
  show X.cons h.bare (takeB t 0) = X.snoc .nil h.bare
  rw [takeB_zero]
  rfl
 | .cons h t, i + 1, y, k => by
  show X.cons h.bare (takeB t (i + 1)) = X.cons h.bare ((takeB t i).snoc y.bare)
  rw [takeB_step t i y (by simpa [X.elems] using k)]
 | .nil, _, _, k => by simp [X.elems] at k
 | .e .., _, _, k => by simp [X.elems] at k
 | .f .., _, _, k => by simp [X.elems] at k
 | .s .., _, _, k => by simp [X.elems] at k
 | .blk _, _, _, k => by simp [X.elems] at k
theorem takeB_all {w : World} {P : Nat → Prop} : ∀ (x : X) (z : Nat) (A : Option Addr) (off : Nat), (Rd w P x).row z A off → takeB x x.len = x.bare
 | .nil, _, _, _, _ => rfl
 | .cons a t, z, A, off, h => by show X.cons a.bare (takeB t t.len) = X.cons a.bare t.bare; rw [takeB_all t z A (off + z) h.2]
 | .e .., _, _, _, h => h.elim
 | .f .., _, _, _, h => h.elim
 | .s .., _, _, _, h => h.elim
 | .blk _, _, _, _, h => h.elim
/-- What a function answers that makes a row bare. -/
def ES (x : X) (z : Nat) (w : World) (e : Ending) (w' : World) : Prop := ∃ v, e = .returned v ∧ Sl x.bare.len (Rd w' (Lo w) x.bare).row z v ∧ Below w.heap.size w w'
/-- What a function answers that makes an element bare. -/
def EE (y : X) (w : World) (e : Ending) (w' : World) : Prop := ∃ cs, e = .returned (.agg cs) ∧ (Rd w' (Lo w) y.bare).cells cs ∧ Below w.heap.size w w'
/-- A row that is made: so many cells, of one's own. -/
theorem wpList_make_z {w : World} {ops : Array Oper} {rest : List Oper} {o : Oper} {a : Act} {Q : Exit → Act → World → Prop} (hg : o.guard = none) (l c : Operand) (t : TypeId) (hop : o.op = Op.makeSlice t l c)
  (e : TypeId) (i : TypeInfo) (z : Value) (size : Nat) (ht : Tryz.prog.underlying t = some (.slice e)) (hi : Tryz.prog.info? e = some i) (hz : i.zero = some z) (hs : i.size = size)
  (n : Nat) (hl : a.eval l = .int .i64 (n : Int)) (hc : a.eval c = .int .i64 (n : Int)) (hbytes : i.bytes * n ≤ 281474976710656) (h63 : n ≤ 100000)
  (hK : ∀ w' xs, xs.length = n * size → w'.ownsRow w.heap.size e size (.slice (some ⟨w.heap.size, 0, none⟩) n n) n xs → Below w.heap.size w w' → w.heap.size < w'.heap.size → wpList Tryz.prog ops Q rest (a.put o.dst (.slice (some ⟨w.heap.size, 0, none⟩) n n)) w') :
  wpList Tryz.prog ops Q (o :: rest) a w := by
 refine wpList_plain hg fun K hK' => ?_
 have hb' : (i.bytes : Int) * (n : Int) ≤ 281474976710656 := by
  have h : ((i.bytes * n : Nat) : Int) ≤ 281474976710656 := by omega
  rwa [Int.natCast_mul] at h
 have hrun := run_make (P := Tryz.prog) w t e i z ht hi hz .i64 .i64 n n (by omega) (Int.le_refl _) hb' (by omega)
 simp only [Int.toNat_natCast] at hrun
 unfold Oper.wp
 simp [execOp, hop, hl, hc, hrun, Result.andThen]
 refine hK' _ _ (hK _ (madeCells z.cells (n * i.size)).toList ?_ ⟨?_, .inr ⟨w.heap.size, n, _, rfl, Nat.le_refl _, Blk.new w _ _, Nat.le_refl _, ?_, ?_, ?_⟩⟩ ((Below.refl _ w).alloc (Nat.le_refl _) _) (al_lt w _))
 ·rw [Array.length_toList, size_madeCells, hs]
 ·rw [Array.length_toList, size_madeCells, hs]
 ·unfold maxLen; omega
 ·rw [size_madeCells, hs]
 ·rw [← hs]
  exact List.take_of_length_le (by rw [Array.length_toList, size_madeCells]; exact Nat.le_refl _)
end Go.Proofs.YtbcjpnmakcmndaaGreatDoor
/- Package tree: Bare: rows that are made, element by element (printed by gentg.py). -/
namespace Go.Proofs.YtbcjpnmakcmndaaGreatDoor
open Go.RowKit PrM
set_option linter.unusedVariables false
set_option linter.unusedSimpArgs false
theorem infoF2 : (Tryz.prog.info? 94).map (fun i => (i.zero, i.size, i.bytes)) = some (some (.agg Z2), 2, 48) := by kernel_rfl
theorem infoSt5 : (Tryz.prog.info? 34).map (fun i => (i.zero, i.size, i.bytes)) = some (some (.agg Z5), 5, 88) := by kernel_rfl
/-- What a block's copy answers. -/
def EB (y : X) (w : World) (e : Ending) (w' : World) : Prop := ∃ v, e = .returned v ∧ (Rd w' (Lo w) y.bare).cells #[v] ∧ Below w.heap.size w w'
section
variable {w w' : World} {P Q : Nat → Prop} {y : X} {cc : Array Value}
theorem bare_e {v0 v1 v2 v3 v4 v5 v6 : Value} (h : (Rd w P y).cells #[v0, v1, v2, v3, v4, v5, v6]) (k : (Rd w' Q y.bare).cells cc) : ∃ q0 q1 q2 q3 q4 A1 m1 c1 A2 m2 c2, cc = #[.int .i64 q0, .int .i64 q1, .int .i64 q2, .string q3, .int .i64 q4, .slice A1 m1 c1, .slice A2 m2 c2] := by
 obtain ⟨_, _, _, _, _, _, _, _, _, rfl, -⟩ := Rd.is_e h rfl
 obtain ⟨_, _, rfl, ⟨_, _, rfl, -⟩, ⟨_, _, rfl, -⟩⟩ := k
 exact ⟨_, _, _, _, _, _, _, _, _, _, _, rfl⟩
theorem bare_f {v0 v1 : Value} (h : (Rd w P y).cells #[v0, v1]) (k : (Rd w' Q y.bare).cells cc) : ∃ A1 m1 c1 A2 m2 c2, cc = #[.slice A1 m1 c1, .slice A2 m2 c2] := by
 obtain ⟨_, _, _, _, rfl, -⟩ := Rd.is_f h rfl
 obtain ⟨_, _, rfl, ⟨_, _, rfl, -⟩, ⟨_, _, rfl, -⟩⟩ := k
 exact ⟨_, _, _, _, _, _, rfl⟩
theorem bare_s {v0 v1 v2 v3 v4 : Value} (h : (Rd w P y).cells #[v0, v1, v2, v3, v4]) (k : (Rd w' Q y.bare).cells cc) : ∃ q0 q1 A1 m1 c1 A2 m2 c2 A3 m3 c3, cc = #[.int .i64 q0, .int .i64 q1, .slice A1 m1 c1, .slice A2 m2 c2, .slice A3 m3 c3] := by
 obtain ⟨_, _, _, _, _, _, _, _, rfl, -⟩ := Rd.is_s h rfl
 obtain ⟨_, _, _, rfl, ⟨_, _, rfl, -⟩, ⟨_, _, rfl, -⟩, ⟨_, _, rfl, -⟩⟩ := k
 exact ⟨_, _, _, _, _, _, _, _, _, _, _, rfl⟩
theorem bare_b {v0 u0 : Value} (h : (Rd w P y).cells #[v0]) (k : (Rd w' Q y.bare).cells #[u0]) : ∃ A1 m1 c1, u0 = .slice A1 m1 c1 := by
 obtain ⟨_, _, rfl, -⟩ := Rd.is_b h rfl
 obtain ⟨v, e, ⟨A, c, rfl, -⟩⟩ := k
 injection e with e
 injection e with e
 exact ⟨_, _, _, e⟩
end
theorem own_put7R {w : World} {base q n c k k1 k2 k3 k4 k5 k6 : Nat} {ty : TypeId} {ys rest : List Value} {z0 z1 z2 z3 z4 z5 z6 : Value} (h : w.ownsRow base ty 7 (.slice (some ⟨q, 0, none⟩) n c) n (ys ++ z0 :: z1 :: z2 :: z3 :: z4 :: z5 :: z6 :: rest)) (hk : ys.length = k) (e1 : k1 = k + 1) (e2 : k2 = k + 2) (e3 : k3 = k + 3) (e4 : k4 = k + 4) (e5 : k5 = k + 5) (e6 : k6 = k + 6) (u0 u1 u2 u3 u4 u5 u6 : Value) :
  Hid ((((((((w.setCell ⟨q, k, none⟩ u0).setCell ⟨q, k1, none⟩ u1).setCell ⟨q, k2, none⟩ u2).setCell ⟨q, k3, none⟩ u3).setCell ⟨q, k4, none⟩ u4).setCell ⟨q, k5, none⟩ u5).setCell ⟨q, k6, none⟩ u6).ownsRow base ty 7 (.slice (some ⟨q, 0, none⟩) n c) n (ys ++ u0 :: u1 :: u2 :: u3 :: u4 :: u5 :: u6 :: rest)) ∧ Hid (Only (fun i => i = q) w (((((((w.setCell ⟨q, k, none⟩ u0).setCell ⟨q, k1, none⟩ u1).setCell ⟨q, k2, none⟩ u2).setCell ⟨q, k3, none⟩ u3).setCell ⟨q, k4, none⟩ u4).setCell ⟨q, k5, none⟩ u5).setCell ⟨q, k6, none⟩ u6)) := by
 subst e1 e2 e3 e4 e5 e6
 refine ⟨?_, ?_⟩
 ·have a0 := own_set h (k + 0) u0
  rw [app_set _ _ _ _ _ hk] at a0
  have a1 := own_set a0 (k + 1) u1
  rw [app_set _ _ _ _ _ hk] at a1
  have a2 := own_set a1 (k + 2) u2
  rw [app_set _ _ _ _ _ hk] at a2
  have a3 := own_set a2 (k + 3) u3
  rw [app_set _ _ _ _ _ hk] at a3
  have a4 := own_set a3 (k + 4) u4
  rw [app_set _ _ _ _ _ hk] at a4
  have a5 := own_set a4 (k + 5) u5
  rw [app_set _ _ _ _ _ hk] at a5
  have a6 := own_set a5 (k + 6) u6
  rw [app_set _ _ _ _ _ hk] at a6
  exact a6
 ·exact Lib.hid ((((((((Only.refl (fun i => i = q) w).setCell (p := ⟨q, k, none⟩) (.inl rfl) u0).setCell (p := ⟨q, k + 1, none⟩) (.inl rfl) u1).setCell (p := ⟨q, k + 2, none⟩) (.inl rfl) u2).setCell (p := ⟨q, k + 3, none⟩) (.inl rfl) u3).setCell (p := ⟨q, k + 4, none⟩) (.inl rfl) u4).setCell (p := ⟨q, k + 5, none⟩) (.inl rfl) u5).setCell (p := ⟨q, k + 6, none⟩) (.inl rfl) u6)
theorem own_cell7R {w : World} {base q n c k k1 k2 k3 k4 k5 k6 : Nat} {ty : TypeId} {ys rest : List Value} {z0 z1 z2 z3 z4 z5 z6 : Value} (h : w.ownsRow base ty 7 (.slice (some ⟨q, 0, none⟩) n c) n (ys ++ z0 :: z1 :: z2 :: z3 :: z4 :: z5 :: z6 :: rest)) (hk : ys.length = k) (e1 : k1 = k + 1) (e2 : k2 = k + 2) (e3 : k3 = k + 3) (e4 : k4 = k + 4) (e5 : k5 = k + 5) (e6 : k6 = k + 6) :
  (w.cell? ⟨q, k, none⟩ = some z0 ∧ w.cell? ⟨q, k1, none⟩ = some z1 ∧ w.cell? ⟨q, k2, none⟩ = some z2 ∧ w.cell? ⟨q, k3, none⟩ = some z3 ∧ w.cell? ⟨q, k4, none⟩ = some z4 ∧ w.cell? ⟨q, k5, none⟩ = some z5 ∧ w.cell? ⟨q, k6, none⟩ = some z6) ∧ w.frozen? ⟨q, k, none⟩ = false ∧ w.frozen? ⟨q, k1, none⟩ = false ∧ w.frozen? ⟨q, k2, none⟩ = false ∧ w.frozen? ⟨q, k3, none⟩ = false ∧ w.frozen? ⟨q, k4, none⟩ = false ∧ w.frozen? ⟨q, k5, none⟩ = false ∧ w.frozen? ⟨q, k6, none⟩ = false := by
 subst hk
 subst e1 e2 e3 e4 e5 e6
 have e : ∀ j u, (z0 :: z1 :: z2 :: z3 :: z4 :: z5 :: z6 :: rest)[j]? = some u → w.cell? ⟨q, ys.length + j, none⟩ = some u ∧ w.frozen? ⟨q, ys.length + j, none⟩ = false := fun j u hj => by
  have hl := (List.getElem?_eq_some_iff.1 hj).1
  have k := own_at h (ys.length + j) (by rw [List.length_append]; omega)
  refine ⟨k.1.trans ?_, k.2⟩
  rw [List.getElem_append_right (Nat.le_add_right _ _)]
  simp only [Nat.add_sub_cancel_left]
  rw [← (List.getElem?_eq_some_iff.1 hj).2]
 exact ⟨⟨(e 0 _ rfl).1, (e 1 _ rfl).1, (e 2 _ rfl).1, (e 3 _ rfl).1, (e 4 _ rfl).1, (e 5 _ rfl).1, (e 6 _ rfl).1⟩, (e 0 _ rfl).2, (e 1 _ rfl).2, (e 2 _ rfl).2, (e 3 _ rfl).2, (e 4 _ rfl).2, (e 5 _ rfl).2, (e 6 _ rfl).2⟩
theorem len7 {zs : List Value} (h : 7 ≤ zs.length) : ∃ z0 z1 z2 z3 z4 z5 z6 rest, zs = z0 :: z1 :: z2 :: z3 :: z4 :: z5 :: z6 :: rest := by
 match zs, h with
 | z0 :: z1 :: z2 :: z3 :: z4 :: z5 :: z6 :: rest, _ => exact ⟨z0, z1, z2, z3, z4, z5, z6, rest, rfl⟩
theorem own_put5R {w : World} {base q n c k k1 k2 k3 k4 : Nat} {ty : TypeId} {ys rest : List Value} {z0 z1 z2 z3 z4 : Value} (h : w.ownsRow base ty 5 (.slice (some ⟨q, 0, none⟩) n c) n (ys ++ z0 :: z1 :: z2 :: z3 :: z4 :: rest)) (hk : ys.length = k) (e1 : k1 = k + 1) (e2 : k2 = k + 2) (e3 : k3 = k + 3) (e4 : k4 = k + 4) (u0 u1 u2 u3 u4 : Value) :
  Hid ((((((w.setCell ⟨q, k, none⟩ u0).setCell ⟨q, k1, none⟩ u1).setCell ⟨q, k2, none⟩ u2).setCell ⟨q, k3, none⟩ u3).setCell ⟨q, k4, none⟩ u4).ownsRow base ty 5 (.slice (some ⟨q, 0, none⟩) n c) n (ys ++ u0 :: u1 :: u2 :: u3 :: u4 :: rest)) ∧ Hid (Only (fun i => i = q) w (((((w.setCell ⟨q, k, none⟩ u0).setCell ⟨q, k1, none⟩ u1).setCell ⟨q, k2, none⟩ u2).setCell ⟨q, k3, none⟩ u3).setCell ⟨q, k4, none⟩ u4)) := by
 subst e1 e2 e3 e4
 refine ⟨?_, ?_⟩
 ·have a0 := own_set h (k + 0) u0
  rw [app_set _ _ _ _ _ hk] at a0
  have a1 := own_set a0 (k + 1) u1
  rw [app_set _ _ _ _ _ hk] at a1
  have a2 := own_set a1 (k + 2) u2
  rw [app_set _ _ _ _ _ hk] at a2
  have a3 := own_set a2 (k + 3) u3
  rw [app_set _ _ _ _ _ hk] at a3
  have a4 := own_set a3 (k + 4) u4
  rw [app_set _ _ _ _ _ hk] at a4
  exact a4
 ·exact Lib.hid ((((((Only.refl (fun i => i = q) w).setCell (p := ⟨q, k, none⟩) (.inl rfl) u0).setCell (p := ⟨q, k + 1, none⟩) (.inl rfl) u1).setCell (p := ⟨q, k + 2, none⟩) (.inl rfl) u2).setCell (p := ⟨q, k + 3, none⟩) (.inl rfl) u3).setCell (p := ⟨q, k + 4, none⟩) (.inl rfl) u4)
theorem own_cell5R {w : World} {base q n c k k1 k2 k3 k4 : Nat} {ty : TypeId} {ys rest : List Value} {z0 z1 z2 z3 z4 : Value} (h : w.ownsRow base ty 5 (.slice (some ⟨q, 0, none⟩) n c) n (ys ++ z0 :: z1 :: z2 :: z3 :: z4 :: rest)) (hk : ys.length = k) (e1 : k1 = k + 1) (e2 : k2 = k + 2) (e3 : k3 = k + 3) (e4 : k4 = k + 4) :
  (w.cell? ⟨q, k, none⟩ = some z0 ∧ w.cell? ⟨q, k1, none⟩ = some z1 ∧ w.cell? ⟨q, k2, none⟩ = some z2 ∧ w.cell? ⟨q, k3, none⟩ = some z3 ∧ w.cell? ⟨q, k4, none⟩ = some z4) ∧ w.frozen? ⟨q, k, none⟩ = false ∧ w.frozen? ⟨q, k1, none⟩ = false ∧ w.frozen? ⟨q, k2, none⟩ = false ∧ w.frozen? ⟨q, k3, none⟩ = false ∧ w.frozen? ⟨q, k4, none⟩ = false := by
 subst hk
 subst e1 e2 e3 e4
 have e : ∀ j u, (z0 :: z1 :: z2 :: z3 :: z4 :: rest)[j]? = some u → w.cell? ⟨q, ys.length + j, none⟩ = some u ∧ w.frozen? ⟨q, ys.length + j, none⟩ = false := fun j u hj => by
  have hl := (List.getElem?_eq_some_iff.1 hj).1
  have k := own_at h (ys.length + j) (by rw [List.length_append]; omega)
  refine ⟨k.1.trans ?_, k.2⟩
  rw [List.getElem_append_right (Nat.le_add_right _ _)]
  simp only [Nat.add_sub_cancel_left]
  rw [← (List.getElem?_eq_some_iff.1 hj).2]
 exact ⟨⟨(e 0 _ rfl).1, (e 1 _ rfl).1, (e 2 _ rfl).1, (e 3 _ rfl).1, (e 4 _ rfl).1⟩, (e 0 _ rfl).2, (e 1 _ rfl).2, (e 2 _ rfl).2, (e 3 _ rfl).2, (e 4 _ rfl).2⟩
theorem len5 {zs : List Value} (h : 5 ≤ zs.length) : ∃ z0 z1 z2 z3 z4 rest, zs = z0 :: z1 :: z2 :: z3 :: z4 :: rest := by
 match zs, h with
 | z0 :: z1 :: z2 :: z3 :: z4 :: rest, _ => exact ⟨z0, z1, z2, z3, z4, rest, rfl⟩
theorem own_put2R {w : World} {base q n c k k1 : Nat} {ty : TypeId} {ys rest : List Value} {z0 z1 : Value} (h : w.ownsRow base ty 2 (.slice (some ⟨q, 0, none⟩) n c) n (ys ++ z0 :: z1 :: rest)) (hk : ys.length = k) (e1 : k1 = k + 1) (u0 u1 : Value) :
  Hid (((w.setCell ⟨q, k, none⟩ u0).setCell ⟨q, k1, none⟩ u1).ownsRow base ty 2 (.slice (some ⟨q, 0, none⟩) n c) n (ys ++ u0 :: u1 :: rest)) ∧ Hid (Only (fun i => i = q) w ((w.setCell ⟨q, k, none⟩ u0).setCell ⟨q, k1, none⟩ u1)) := by
 subst e1
 refine ⟨?_, ?_⟩
 ·have a0 := own_set h (k + 0) u0
  rw [app_set _ _ _ _ _ hk] at a0
  have a1 := own_set a0 (k + 1) u1
  rw [app_set _ _ _ _ _ hk] at a1
  exact a1
 ·exact Lib.hid (((Only.refl (fun i => i = q) w).setCell (p := ⟨q, k, none⟩) (.inl rfl) u0).setCell (p := ⟨q, k + 1, none⟩) (.inl rfl) u1)
theorem own_cell2R {w : World} {base q n c k k1 : Nat} {ty : TypeId} {ys rest : List Value} {z0 z1 : Value} (h : w.ownsRow base ty 2 (.slice (some ⟨q, 0, none⟩) n c) n (ys ++ z0 :: z1 :: rest)) (hk : ys.length = k) (e1 : k1 = k + 1) :
  (w.cell? ⟨q, k, none⟩ = some z0 ∧ w.cell? ⟨q, k1, none⟩ = some z1) ∧ w.frozen? ⟨q, k, none⟩ = false ∧ w.frozen? ⟨q, k1, none⟩ = false := by
 subst hk
 subst e1
 have e : ∀ j u, (z0 :: z1 :: rest)[j]? = some u → w.cell? ⟨q, ys.length + j, none⟩ = some u ∧ w.frozen? ⟨q, ys.length + j, none⟩ = false := fun j u hj => by
  have hl := (List.getElem?_eq_some_iff.1 hj).1
  have k := own_at h (ys.length + j) (by rw [List.length_append]; omega)
  refine ⟨k.1.trans ?_, k.2⟩
  rw [List.getElem_append_right (Nat.le_add_right _ _)]
  simp only [Nat.add_sub_cancel_left]
  rw [← (List.getElem?_eq_some_iff.1 hj).2]
 exact ⟨⟨(e 0 _ rfl).1, (e 1 _ rfl).1⟩, (e 0 _ rfl).2, (e 1 _ rfl).2⟩
theorem len2 {zs : List Value} (h : 2 ≤ zs.length) : ∃ z0 z1 rest, zs = z0 :: z1 :: rest := by
 match zs, h with
 | z0 :: z1 :: rest, _ => exact ⟨z0, z1, rest, rfl⟩
theorem own_put1R {w : World} {base q n c k : Nat} {ty : TypeId} {ys rest : List Value} {z0 : Value} (h : w.ownsRow base ty 1 (.slice (some ⟨q, 0, none⟩) n c) n (ys ++ z0 :: rest)) (hk : ys.length = k)  (u0 : Value) :
  Hid ((w.setCell ⟨q, k, none⟩ u0).ownsRow base ty 1 (.slice (some ⟨q, 0, none⟩) n c) n (ys ++ u0 :: rest)) ∧ Hid (Only (fun i => i = q) w (w.setCell ⟨q, k, none⟩ u0)) := by
 refine ⟨?_, ?_⟩
 ·have a0 := own_set h (k + 0) u0
  rw [app_set _ _ _ _ _ hk] at a0
  exact a0
 ·exact Lib.hid ((Only.refl (fun i => i = q) w).setCell (p := ⟨q, k, none⟩) (.inl rfl) u0)
theorem own_cell1R {w : World} {base q n c k : Nat} {ty : TypeId} {ys rest : List Value} {z0 : Value} (h : w.ownsRow base ty 1 (.slice (some ⟨q, 0, none⟩) n c) n (ys ++ z0 :: rest)) (hk : ys.length = k)  :
  (w.cell? ⟨q, k, none⟩ = some z0) ∧ w.frozen? ⟨q, k, none⟩ = false := by
 subst hk
 have e : ∀ j u, (z0 :: rest)[j]? = some u → w.cell? ⟨q, ys.length + j, none⟩ = some u ∧ w.frozen? ⟨q, ys.length + j, none⟩ = false := fun j u hj => by
  have hl := (List.getElem?_eq_some_iff.1 hj).1
  have k := own_at h (ys.length + j) (by rw [List.length_append]; omega)
  refine ⟨k.1.trans ?_, k.2⟩
  rw [List.getElem_append_right (Nat.le_add_right _ _)]
  simp only [Nat.add_sub_cancel_left]
  rw [← (List.getElem?_eq_some_iff.1 hj).2]
 exact ⟨(e 0 _ rfl).1, (e 0 _ rfl).2⟩
theorem len1 {zs : List Value} (h : 1 ≤ zs.length) : ∃ z0 rest, zs = z0 :: rest := by
 match zs, h with
 | z0 :: rest, _ => exact ⟨z0, rest, rfl⟩
set_option maxRecDepth 20000 in
set_option maxHeartbeats 4000000 in
theorem each_e (w : World) (P : Nat → Prop) (x : X) (A : Option Addr) (n c : Nat) (h : Sl x.len (Rd w P x).row 7 (.slice A n c)) (hb : n ≤ 100000)
  (H : ∀ y ∈ x.elems, ∀ w1 (v0 v1 v2 v3 v4 v5 v6 : Value), (Rd w1 P y).cells #[v0, v1, v2, v3, v4, v5, v6] → Calls Tryz.prog 67 #[.agg #[v0, v1, v2, v3, v4, v5, v6]] w1 (EE y w1)) :
  Calls Tryz.prog 66 #[.slice A n c, .func (.func 67) #[] #[]] w (ES x 7 w) := by
 have HX := Lib.hid h
 have HN := Lib.hid (Sl.len h).1
 have EX : takeB x n = x.bare := by rw [HN.out]; exact takeB_all x 7 A 0 (by obtain ⟨A', c', e, -, -, hr⟩ := h; injection e with e1; subst e1; exact hr)
 have HEX := Lib.hid EX
 have HBL := Lib.hid (X.bare_len x)
 have HH := Lib.hid H
 have n0 : (0 : Int) ≤ (n : Int) := by omega
 have n1 : (n : Int) ≤ 100000 := by omega
 have HHB := Lib.hid hb
 clear H EX
 cases A with
 | none =>
  obtain rfl : c = 0 := (Sl.len h).2.2 rfl
  obtain rfl : n = 0 := Nat.le_zero.1 (Sl.len h).2.1
  have nq : ∀ W, (binOp .eql 31 (.slice none 0 0) (.slice none 0 0)).run Tryz.prog W = .ok (.bool true) W := fun _ => rfl
  clear h hb
  go_enter Tryz.func66, Tryz.ntmps66
  go_wp2_with fail
  go_ret
  refine ⟨_, rfl, ?_, Below.refl _ _⟩
  rw [← HEX.out, takeB_zero]
  exact sl_nil _ _ _
 | some p =>
  have nq : ∀ W, (binOp .eql 31 (.slice (some p) n c) (.slice none 0 0)).run Tryz.prog W = .ok (.bool false) W := fun _ => rfl
  clear h
  go_enter Tryz.func66, Tryz.ntmps66
  obtain ⟨ti, hti, hz, k1, k2⟩ := info_parts infoE
  go_wp2_with (at_make; refine wpList_make_z rfl _ _ 31 rfl 41 ti _ 7 Tryz.underlying31 hti hz k1 n rfl rfl (by rw [k2]; omega) hb ?_; intro w1 xs hx own b1 hw; have HXS := Lib.hid hx; have OW := Lib.hid own; have B1 := Lib.hid b1; have HW := Lib.hid hw; clear hx own b1 hw hb hti hz k1 k2 ti)
  go_loopw [6, 7, 15] (fun u6 u7 u15 wr => ∃ (i : Nat) (p6 p7 : Value) (ys zs : List Value), u6 = p6 ∧ u7 = p7 ∧ u15 = .int .i64 (i : Int) ∧ i ≤ n ∧ ys.length = i * 7 ∧ zs.length = (n - i) * 7 ∧ wr.ownsRow w.heap.size 41 7 (.slice (some ⟨w.heap.size, 0, none⟩) n n) n (ys ++ zs) ∧ (Rd wr (fun k => Lo w k ∧ w.heap.size ≠ k) (takeB x i)).own 7 ys ∧ Below w.heap.size w wr ∧ w.heap.size < wr.heap.size) (fun _ _ u15 _ => (n : Int).toNat - (intOf u15).toNat)
  case atStart => exact ⟨0, undef, undef, [], xs, rfl, rfl, rfl, Nat.zero_le _, (Nat.zero_mul _).symm, HXS.out, OW.out, by rw [takeB_zero]; rfl, B1.out, HW.out⟩
  case round =>
   obtain ⟨i, p6, p7, ys, zs, rfl, rfl, rfl, hi, hy, hz, own, rdo, hbl, hsz⟩ := hrel
   clear OW B1 HW HXS
   have HB := Lib.hid hbl
   have OW := Lib.hid own
   have RO := Lib.hid rdo
   have HSZ := Lib.hid hsz
   have HK := Lib.hid hy
   have i0 : (0 : Int) ≤ (i : Int) := by omega
   have wi : wrap64 ((i : Int) + 1) = (i : Int) + 1 := by unfold wrap64; omega
   clear hbl own rdo hsz hy
   by_cases hlt : i < n
   ·obtain ⟨p', y, v0, v1, v2, v3, v4, v5, v6, ep, hy, ⟨c0, c1, c2, c3, c4, c5, c6⟩, rd⟩ := Sl.at7 (Sl.bel HB.out HX.out) (by rw [← HN.out]; exact hlt)
    obtain rfl : p = p' := Option.some.inj ep
    clear ep
    obtain ⟨z0, z1, z2, z3, z4, z5, z6, rest, rfl⟩ := len7 (zs := zs) (by rw [hz]; exact Nat.le_trans (by omega) (Nat.mul_le_mul_right 7 (show 1 ≤ n - i by omega)))
    have hr : rest.length = (n - (i + 1)) * 7 := by
     have e : n - i = (n - (i + 1)) + 1 := by omega
     rw [e, Nat.add_mul] at hz
     simp at hz
     omega
    have HR := Lib.hid hr
    have RD := Lib.hid rd
    have HC := Lib.hid (HH.out y (List.mem_of_getElem? hy))
    have HY := Lib.hid (takeB_step x i y hy)
    have hl1 : (i : Int) < (n : Int) := by omega
    have HLT := Lib.hid hlt
    clear hi hy rd hlt hz hr
    go_wp2_with (first
     |((with_reducible refine wpList_store_row ?_ 41 (.tmp 7) (.tmp 19) ?_ wr.heap.size #[v0, v1, v2, v3, v4, v5, v6] ?_ ?_ 41 Z7 ?_ ?_ ?_ ?_ ?_); rfl; rfl; rfl; rfl; exact Blk.new wr Z7 41; exact sizeE; rfl; exact (ones7 (Rd.one_cells _ _ RD.out)); obtain ⟨w2, hw, bb, K2, ss⟩ := boxT wr #[v0, v1, v2, v3, v4, v5, v6] Z7 41; rw [← hw]; clear hw ss; have HB2 := Lib.hid (HB.out.trans (bb.out.mono HB.out.size)); have RD2 := Lib.hid (Rd.bel bb.out RD.out); have OW2 := Lib.hid (ownsRow_only OW.out (Only.of_below (F := fun _ => False) bb.out) (fun _ f => f.elim)); have RO2 := Lib.hid ((Rd.move (Moves.of_below bb.out (fun _ hk _ => hk)) _).2.2 _ _ RO.out); have HS2 := Lib.hid (Nat.lt_of_lt_of_le HSZ.out bb.out.size); obtain ⟨⟨b0, b1, b2, b3, b4, b5, b6⟩, -⟩ := K2.out.seven; clear bb)
     |((with_reducible refine wp_store_row 41 (.tmp 7) (.tmp 19) ?_ wr.heap.size #[v0, v1, v2, v3, v4, v5, v6] ?_ ?_ 41 Z7 ?_ ?_ ?_ ?_ ?_); rfl; rfl; rfl; exact Blk.new wr Z7 41; exact sizeE; rfl; exact (ones7 (Rd.one_cells _ _ RD.out)); obtain ⟨w2, hw, bb, K2, ss⟩ := boxT wr #[v0, v1, v2, v3, v4, v5, v6] Z7 41; rw [← hw]; clear hw ss; have HB2 := Lib.hid (HB.out.trans (bb.out.mono HB.out.size)); have RD2 := Lib.hid (Rd.bel bb.out RD.out); have OW2 := Lib.hid (ownsRow_only OW.out (Only.of_below (F := fun _ => False) bb.out) (fun _ f => f.elim)); have RO2 := Lib.hid ((Rd.move (Moves.of_below bb.out (fun _ hk _ => hk)) _).2.2 _ _ RO.out); have HS2 := Lib.hid (Nat.lt_of_lt_of_le HSZ.out bb.out.size); obtain ⟨⟨b0, b1, b2, b3, b4, b5, b6⟩, -⟩ := K2.out.seven; clear bb)
     |(go_at_call 67; refine (HC.out _ v0 v1 v2 v3 v4 v5 v6 RD2.out).mono ?_; rintro e w3 ⟨cc, rfl, rdc, b3⟩; obtain ⟨q0, q1, q2, q3, q4, A1, m1, d1, A2, m2, d2, rfl⟩ := bare_e RD2.out rdc; have HB3 := Lib.hid (HB2.out.trans (b3.mono HB2.out.size)); have OW3 := Lib.hid (ownsRow_only OW2.out (Only.of_below (F := fun _ => False) b3) (fun _ f => f.elim)); have RO3 := Lib.hid ((Rd.move (Moves.of_below b3 (fun _ hk _ => hk)) _).2.2 _ _ RO2.out); have HS3 := Lib.hid (Nat.lt_of_lt_of_le HS2.out b3.size); have RE3 := Lib.hid ((Rd.move (Moves.of_below (Q := fun k => Lo w k ∧ w.heap.size ≠ k) (Below.refl _ w3) (fun k hk _ => by have := HS2.out; unfold Lo at *; omega)) _).1 _ rdc); obtain ⟨⟨g0, g1, g2, g3, g4, g5, g6⟩, h0, h1, h2, h3, h4, h5, h6⟩ := own_cell7R (k1 := i * 7 + 1) (k2 := i * 7 + 2) (k3 := i * 7 + 3) (k4 := i * 7 + 4) (k5 := i * 7 + 5) (k6 := i * 7 + 6) OW3.out HK.out rfl rfl rfl rfl rfl rfl; have PU := Lib.hid (own_put7R (k1 := i * 7 + 1) (k2 := i * 7 + 2) (k3 := i * 7 + 3) (k4 := i * 7 + 4) (k5 := i * 7 + 5) (k6 := i * 7 + 6) OW3.out HK.out rfl rfl rfl rfl rfl rfl (.int .i64 q0) (.int .i64 q1) (.int .i64 q2) (.string q3) (.int .i64 q4) (.slice A1 m1 d1) (.slice A2 m2 d2)); clear rdc b3))
    have ROF := Lib.hid ((Rd.move (Moves.of_only PU.out.2.out (fun k hk _ e => hk.2 e.symm) (fun _ hk _ => hk)) _).2.2 _ _ RO3.out)
    have REF := Lib.hid ((Rd.move (Moves.of_only PU.out.2.out (fun k hk _ e => hk.2 e.symm) (fun _ hk _ => hk)) _).1 _ RE3.out)
    have HBF := Lib.hid (HB3.out.trans (PU.out.2.out.below (B := w.heap.size) (fun n e => by omega) HB3.out.size))
    have HSF := Lib.hid (Nat.lt_of_lt_of_le HS3.out PU.out.2.out.size)
    refine ⟨⟨i + 1, _, _, ys ++ [.int .i64 q0, .int .i64 q1, .int .i64 q2, .string q3, .int .i64 q4, .slice A1 m1 d1, .slice A2 m2 d2], rest, rfl, rfl, rfl, (by have := HLT.out; omega), ?_, HR.out, ?_, ?_, HBF.out, HSF.out⟩, ?_⟩
    ·rw [List.length_append, HK.out, Nat.add_mul]; simp
    ·have k := PU.out.1.out
     rw [List.append_assoc]
     exact k
    ·rw [HY.out]
     exact Rd.own_snoc _ _ _ _ #[.int .i64 q0, .int .i64 q1, .int .i64 q2, .string q3, .int .i64 q4, .slice A1 m1 d1, .slice A2 m2 d2] ROF.out REF.out rfl
    ·have := HLT.out
     simp only [intOf]
     omega
   ·have hl1 : ¬ (i : Int) < (n : Int) := by omega
    obtain rfl : i = n := by omega
    obtain rfl : zs = [] := List.eq_nil_of_length_eq_zero (by rw [hz]; simp)
    clear hlt hi hz
    go_wp2_with fail
    go_ret
    refine ⟨_, rfl, ?_, HB.out⟩
    have o := OW.out
    rw [List.append_nil] at o
    have r := RO.out
    rw [HEX.out] at r
    exact Rd.of_own o ((Rd.move (Moves.of_below (Q := Lo w) (Below.refl _ wr) fun k hk _ => hk.1) x.bare).2.2 _ _ r) (by rw [HBL.out, HN.out]) (fun q e => (o.lt q e).1)
set_option maxRecDepth 20000 in
set_option maxHeartbeats 4000000 in
theorem each_f (w : World) (P : Nat → Prop) (x : X) (A : Option Addr) (n c : Nat) (h : Sl x.len (Rd w P x).row 2 (.slice A n c)) (hb : n ≤ 100000)
  (H : ∀ y ∈ x.elems, ∀ w1 (v0 v1 : Value), (Rd w1 P y).cells #[v0, v1] → Calls Tryz.prog 118 #[.agg #[v0, v1]] w1 (EE y w1)) :
  Calls Tryz.prog 117 #[.slice A n c, .func (.func 118) #[] #[]] w (ES x 2 w) := by
 have HX := Lib.hid h
 have HN := Lib.hid (Sl.len h).1
 have EX : takeB x n = x.bare := by rw [HN.out]; exact takeB_all x 2 A 0 (by obtain ⟨A', c', e, -, -, hr⟩ := h; injection e with e1; subst e1; exact hr)
 have HEX := Lib.hid EX
 have HBL := Lib.hid (X.bare_len x)
 have HH := Lib.hid H
 have n0 : (0 : Int) ≤ (n : Int) := by omega
 have n1 : (n : Int) ≤ 100000 := by omega
 have HHB := Lib.hid hb
 clear H EX
 cases A with
 | none =>
  obtain rfl : c = 0 := (Sl.len h).2.2 rfl
  obtain rfl : n = 0 := Nat.le_zero.1 (Sl.len h).2.1
  have nq : ∀ W, (binOp .eql 39 (.slice none 0 0) (.slice none 0 0)).run Tryz.prog W = .ok (.bool true) W := fun _ => rfl
  clear h hb
  go_enter Tryz.func117, Tryz.ntmps117
  go_wp2_with fail
  go_ret
  refine ⟨_, rfl, ?_, Below.refl _ _⟩
  rw [← HEX.out, takeB_zero]
  exact sl_nil _ _ _
 | some p =>
  have nq : ∀ W, (binOp .eql 39 (.slice (some p) n c) (.slice none 0 0)).run Tryz.prog W = .ok (.bool false) W := fun _ => rfl
  clear h
  go_enter Tryz.func117, Tryz.ntmps117
  obtain ⟨ti, hti, hz, k1, k2⟩ := info_parts infoF2
  go_wp2_with (at_make; refine wpList_make_z rfl _ _ 39 rfl 94 ti _ 2 Tryz.underlying39 hti hz k1 n rfl rfl (by rw [k2]; omega) hb ?_; intro w1 xs hx own b1 hw; have HXS := Lib.hid hx; have OW := Lib.hid own; have B1 := Lib.hid b1; have HW := Lib.hid hw; clear hx own b1 hw hb hti hz k1 k2 ti)
  go_loopw [6, 7, 15] (fun u6 u7 u15 wr => ∃ (i : Nat) (p6 p7 : Value) (ys zs : List Value), u6 = p6 ∧ u7 = p7 ∧ u15 = .int .i64 (i : Int) ∧ i ≤ n ∧ ys.length = i * 2 ∧ zs.length = (n - i) * 2 ∧ wr.ownsRow w.heap.size 94 2 (.slice (some ⟨w.heap.size, 0, none⟩) n n) n (ys ++ zs) ∧ (Rd wr (fun k => Lo w k ∧ w.heap.size ≠ k) (takeB x i)).own 2 ys ∧ Below w.heap.size w wr ∧ w.heap.size < wr.heap.size) (fun _ _ u15 _ => (n : Int).toNat - (intOf u15).toNat)
  case atStart => exact ⟨0, undef, undef, [], xs, rfl, rfl, rfl, Nat.zero_le _, (Nat.zero_mul _).symm, HXS.out, OW.out, by rw [takeB_zero]; rfl, B1.out, HW.out⟩
  case round =>
   obtain ⟨i, p6, p7, ys, zs, rfl, rfl, rfl, hi, hy, hz, own, rdo, hbl, hsz⟩ := hrel
   clear OW B1 HW HXS
   have HB := Lib.hid hbl
   have OW := Lib.hid own
   have RO := Lib.hid rdo
   have HSZ := Lib.hid hsz
   have HK := Lib.hid hy
   have i0 : (0 : Int) ≤ (i : Int) := by omega
   have wi : wrap64 ((i : Int) + 1) = (i : Int) + 1 := by unfold wrap64; omega
   clear hbl own rdo hsz hy
   by_cases hlt : i < n
   ·obtain ⟨p', y, v0, v1, ep, hy, ⟨c0, c1⟩, rd⟩ := Sl.at2 (Sl.bel HB.out HX.out) (by rw [← HN.out]; exact hlt)
    obtain rfl : p = p' := Option.some.inj ep
    clear ep
    obtain ⟨z0, z1, rest, rfl⟩ := len2 (zs := zs) (by rw [hz]; exact Nat.le_trans (by omega) (Nat.mul_le_mul_right 2 (show 1 ≤ n - i by omega)))
    have hr : rest.length = (n - (i + 1)) * 2 := by
     have e : n - i = (n - (i + 1)) + 1 := by omega
     rw [e, Nat.add_mul] at hz
     simp at hz
     omega
    have HR := Lib.hid hr
    have RD := Lib.hid rd
    have HC := Lib.hid (HH.out y (List.mem_of_getElem? hy))
    have HY := Lib.hid (takeB_step x i y hy)
    have hl1 : (i : Int) < (n : Int) := by omega
    have HLT := Lib.hid hlt
    clear hi hy rd hlt hz hr
    go_wp2_with (first
     |((with_reducible refine wpList_store_row ?_ 94 (.tmp 7) (.tmp 19) ?_ wr.heap.size #[v0, v1] ?_ ?_ 94 Z2 ?_ ?_ ?_ ?_ ?_); rfl; rfl; rfl; rfl; exact Blk.new wr Z2 94; exact sizeF; rfl; exact (onesN (Rd.one_cells _ _ RD.out)); obtain ⟨w2, hw, bb, K2, ss⟩ := boxT wr #[v0, v1] Z2 94; rw [← hw]; clear hw ss; have HB2 := Lib.hid (HB.out.trans (bb.out.mono HB.out.size)); have RD2 := Lib.hid (Rd.bel bb.out RD.out); have OW2 := Lib.hid (ownsRow_only OW.out (Only.of_below (F := fun _ => False) bb.out) (fun _ f => f.elim)); have RO2 := Lib.hid ((Rd.move (Moves.of_below bb.out (fun _ hk _ => hk)) _).2.2 _ _ RO.out); have HS2 := Lib.hid (Nat.lt_of_lt_of_le HSZ.out bb.out.size); obtain ⟨⟨b0, b1⟩, -⟩ := K2.out.pair; clear bb)
     |((with_reducible refine wp_store_row 94 (.tmp 7) (.tmp 19) ?_ wr.heap.size #[v0, v1] ?_ ?_ 94 Z2 ?_ ?_ ?_ ?_ ?_); rfl; rfl; rfl; exact Blk.new wr Z2 94; exact sizeF; rfl; exact (onesN (Rd.one_cells _ _ RD.out)); obtain ⟨w2, hw, bb, K2, ss⟩ := boxT wr #[v0, v1] Z2 94; rw [← hw]; clear hw ss; have HB2 := Lib.hid (HB.out.trans (bb.out.mono HB.out.size)); have RD2 := Lib.hid (Rd.bel bb.out RD.out); have OW2 := Lib.hid (ownsRow_only OW.out (Only.of_below (F := fun _ => False) bb.out) (fun _ f => f.elim)); have RO2 := Lib.hid ((Rd.move (Moves.of_below bb.out (fun _ hk _ => hk)) _).2.2 _ _ RO.out); have HS2 := Lib.hid (Nat.lt_of_lt_of_le HSZ.out bb.out.size); obtain ⟨⟨b0, b1⟩, -⟩ := K2.out.pair; clear bb)
     |(go_at_call 118; refine (HC.out _ v0 v1 RD2.out).mono ?_; rintro e w3 ⟨cc, rfl, rdc, b3⟩; obtain ⟨A1, m1, d1, A2, m2, d2, rfl⟩ := bare_f RD2.out rdc; have HB3 := Lib.hid (HB2.out.trans (b3.mono HB2.out.size)); have OW3 := Lib.hid (ownsRow_only OW2.out (Only.of_below (F := fun _ => False) b3) (fun _ f => f.elim)); have RO3 := Lib.hid ((Rd.move (Moves.of_below b3 (fun _ hk _ => hk)) _).2.2 _ _ RO2.out); have HS3 := Lib.hid (Nat.lt_of_lt_of_le HS2.out b3.size); have RE3 := Lib.hid ((Rd.move (Moves.of_below (Q := fun k => Lo w k ∧ w.heap.size ≠ k) (Below.refl _ w3) (fun k hk _ => by have := HS2.out; unfold Lo at *; omega)) _).1 _ rdc); obtain ⟨⟨g0, g1⟩, h0, h1⟩ := own_cell2R (k1 := i * 2 + 1) OW3.out HK.out rfl; have PU := Lib.hid (own_put2R (k1 := i * 2 + 1) OW3.out HK.out rfl (.slice A1 m1 d1) (.slice A2 m2 d2)); clear rdc b3))
    have ROF := Lib.hid ((Rd.move (Moves.of_only PU.out.2.out (fun k hk _ e => hk.2 e.symm) (fun _ hk _ => hk)) _).2.2 _ _ RO3.out)
    have REF := Lib.hid ((Rd.move (Moves.of_only PU.out.2.out (fun k hk _ e => hk.2 e.symm) (fun _ hk _ => hk)) _).1 _ RE3.out)
    have HBF := Lib.hid (HB3.out.trans (PU.out.2.out.below (B := w.heap.size) (fun n e => by omega) HB3.out.size))
    have HSF := Lib.hid (Nat.lt_of_lt_of_le HS3.out PU.out.2.out.size)
    refine ⟨⟨i + 1, _, _, ys ++ [.slice A1 m1 d1, .slice A2 m2 d2], rest, rfl, rfl, rfl, (by have := HLT.out; omega), ?_, HR.out, ?_, ?_, HBF.out, HSF.out⟩, ?_⟩
    ·rw [List.length_append, HK.out, Nat.add_mul]; simp
    ·have k := PU.out.1.out
     rw [List.append_assoc]
     exact k
    ·rw [HY.out]
     exact Rd.own_snoc _ _ _ _ #[.slice A1 m1 d1, .slice A2 m2 d2] ROF.out REF.out rfl
    ·have := HLT.out
     simp only [intOf]
     omega
   ·have hl1 : ¬ (i : Int) < (n : Int) := by omega
    obtain rfl : i = n := by omega
    obtain rfl : zs = [] := List.eq_nil_of_length_eq_zero (by rw [hz]; simp)
    clear hlt hi hz
    go_wp2_with fail
    go_ret
    refine ⟨_, rfl, ?_, HB.out⟩
    have o := OW.out
    rw [List.append_nil] at o
    have r := RO.out
    rw [HEX.out] at r
    exact Rd.of_own o ((Rd.move (Moves.of_below (Q := Lo w) (Below.refl _ wr) fun k hk _ => hk.1) x.bare).2.2 _ _ r) (by rw [HBL.out, HN.out]) (fun q e => (o.lt q e).1)
set_option maxRecDepth 20000 in
set_option maxHeartbeats 4000000 in
theorem each_s (w : World) (P : Nat → Prop) (x : X) (A : Option Addr) (n c : Nat) (h : Sl x.len (Rd w P x).row 5 (.slice A n c)) (hb : n ≤ 100000)
  (H : ∀ y ∈ x.elems, ∀ w1 (v0 v1 v2 v3 v4 : Value), (Rd w1 P y).cells #[v0, v1, v2, v3, v4] → Calls Tryz.prog 30 #[.agg #[v0, v1, v2, v3, v4]] w1 (EE y w1)) :
  Calls Tryz.prog 29 #[.slice A n c, .func (.func 30) #[] #[]] w (ES x 5 w) := by
 have HX := Lib.hid h
 have HN := Lib.hid (Sl.len h).1
 have EX : takeB x n = x.bare := by rw [HN.out]; exact takeB_all x 5 A 0 (by obtain ⟨A', c', e, -, -, hr⟩ := h; injection e with e1; subst e1; exact hr)
 have HEX := Lib.hid EX
 have HBL := Lib.hid (X.bare_len x)
 have HH := Lib.hid H
 have n0 : (0 : Int) ≤ (n : Int) := by omega
 have n1 : (n : Int) ≤ 100000 := by omega
 have HHB := Lib.hid hb
 clear H EX
 cases A with
 | none =>
  obtain rfl : c = 0 := (Sl.len h).2.2 rfl
  obtain rfl : n = 0 := Nat.le_zero.1 (Sl.len h).2.1
  have nq : ∀ W, (binOp .eql 23 (.slice none 0 0) (.slice none 0 0)).run Tryz.prog W = .ok (.bool true) W := fun _ => rfl
  clear h hb
  go_enter Tryz.func29, Tryz.ntmps29
  go_wp2_with fail
  go_ret
  refine ⟨_, rfl, ?_, Below.refl _ _⟩
  rw [← HEX.out, takeB_zero]
  exact sl_nil _ _ _
 | some p =>
  have nq : ∀ W, (binOp .eql 23 (.slice (some p) n c) (.slice none 0 0)).run Tryz.prog W = .ok (.bool false) W := fun _ => rfl
  clear h
  go_enter Tryz.func29, Tryz.ntmps29
  obtain ⟨ti, hti, hz, k1, k2⟩ := info_parts infoSt5
  go_wp2_with (at_make; refine wpList_make_z rfl _ _ 23 rfl 34 ti _ 5 Tryz.underlying23 hti hz k1 n rfl rfl (by rw [k2]; omega) hb ?_; intro w1 xs hx own b1 hw; have HXS := Lib.hid hx; have OW := Lib.hid own; have B1 := Lib.hid b1; have HW := Lib.hid hw; clear hx own b1 hw hb hti hz k1 k2 ti)
  go_loopw [6, 7, 15] (fun u6 u7 u15 wr => ∃ (i : Nat) (p6 p7 : Value) (ys zs : List Value), u6 = p6 ∧ u7 = p7 ∧ u15 = .int .i64 (i : Int) ∧ i ≤ n ∧ ys.length = i * 5 ∧ zs.length = (n - i) * 5 ∧ wr.ownsRow w.heap.size 34 5 (.slice (some ⟨w.heap.size, 0, none⟩) n n) n (ys ++ zs) ∧ (Rd wr (fun k => Lo w k ∧ w.heap.size ≠ k) (takeB x i)).own 5 ys ∧ Below w.heap.size w wr ∧ w.heap.size < wr.heap.size) (fun _ _ u15 _ => (n : Int).toNat - (intOf u15).toNat)
  case atStart => exact ⟨0, undef, undef, [], xs, rfl, rfl, rfl, Nat.zero_le _, (Nat.zero_mul _).symm, HXS.out, OW.out, by rw [takeB_zero]; rfl, B1.out, HW.out⟩
  case round =>
   obtain ⟨i, p6, p7, ys, zs, rfl, rfl, rfl, hi, hy, hz, own, rdo, hbl, hsz⟩ := hrel
   clear OW B1 HW HXS
   have HB := Lib.hid hbl
   have OW := Lib.hid own
   have RO := Lib.hid rdo
   have HSZ := Lib.hid hsz
   have HK := Lib.hid hy
   have i0 : (0 : Int) ≤ (i : Int) := by omega
   have wi : wrap64 ((i : Int) + 1) = (i : Int) + 1 := by unfold wrap64; omega
   clear hbl own rdo hsz hy
   by_cases hlt : i < n
   ·obtain ⟨p', y, v0, v1, v2, v3, v4, ep, hy, ⟨c0, c1, c2, c3, c4⟩, rd⟩ := Sl.at5 (Sl.bel HB.out HX.out) (by rw [← HN.out]; exact hlt)
    obtain rfl : p = p' := Option.some.inj ep
    clear ep
    obtain ⟨z0, z1, z2, z3, z4, rest, rfl⟩ := len5 (zs := zs) (by rw [hz]; exact Nat.le_trans (by omega) (Nat.mul_le_mul_right 5 (show 1 ≤ n - i by omega)))
    have hr : rest.length = (n - (i + 1)) * 5 := by
     have e : n - i = (n - (i + 1)) + 1 := by omega
     rw [e, Nat.add_mul] at hz
     simp at hz
     omega
    have HR := Lib.hid hr
    have RD := Lib.hid rd
    have HC := Lib.hid (HH.out y (List.mem_of_getElem? hy))
    have HY := Lib.hid (takeB_step x i y hy)
    have hl1 : (i : Int) < (n : Int) := by omega
    have HLT := Lib.hid hlt
    clear hi hy rd hlt hz hr
    go_wp2_with (first
     |((with_reducible refine wpList_store_row ?_ 34 (.tmp 7) (.tmp 19) ?_ wr.heap.size #[v0, v1, v2, v3, v4] ?_ ?_ 34 Z5 ?_ ?_ ?_ ?_ ?_); rfl; rfl; rfl; rfl; exact Blk.new wr Z5 34; exact sizeSt; rfl; exact (onesN (Rd.one_cells _ _ RD.out)); obtain ⟨w2, hw, bb, K2, ss⟩ := boxT wr #[v0, v1, v2, v3, v4] Z5 34; rw [← hw]; clear hw ss; have HB2 := Lib.hid (HB.out.trans (bb.out.mono HB.out.size)); have RD2 := Lib.hid (Rd.bel bb.out RD.out); have OW2 := Lib.hid (ownsRow_only OW.out (Only.of_below (F := fun _ => False) bb.out) (fun _ f => f.elim)); have RO2 := Lib.hid ((Rd.move (Moves.of_below bb.out (fun _ hk _ => hk)) _).2.2 _ _ RO.out); have HS2 := Lib.hid (Nat.lt_of_lt_of_le HSZ.out bb.out.size); obtain ⟨⟨b0, b1, b2, b3, b4⟩, -⟩ := K2.out.five; clear bb)
     |((with_reducible refine wp_store_row 34 (.tmp 7) (.tmp 19) ?_ wr.heap.size #[v0, v1, v2, v3, v4] ?_ ?_ 34 Z5 ?_ ?_ ?_ ?_ ?_); rfl; rfl; rfl; exact Blk.new wr Z5 34; exact sizeSt; rfl; exact (onesN (Rd.one_cells _ _ RD.out)); obtain ⟨w2, hw, bb, K2, ss⟩ := boxT wr #[v0, v1, v2, v3, v4] Z5 34; rw [← hw]; clear hw ss; have HB2 := Lib.hid (HB.out.trans (bb.out.mono HB.out.size)); have RD2 := Lib.hid (Rd.bel bb.out RD.out); have OW2 := Lib.hid (ownsRow_only OW.out (Only.of_below (F := fun _ => False) bb.out) (fun _ f => f.elim)); have RO2 := Lib.hid ((Rd.move (Moves.of_below bb.out (fun _ hk _ => hk)) _).2.2 _ _ RO.out); have HS2 := Lib.hid (Nat.lt_of_lt_of_le HSZ.out bb.out.size); obtain ⟨⟨b0, b1, b2, b3, b4⟩, -⟩ := K2.out.five; clear bb)
     |(go_at_call 30; refine (HC.out _ v0 v1 v2 v3 v4 RD2.out).mono ?_; rintro e w3 ⟨cc, rfl, rdc, b3⟩; obtain ⟨q0, q1, A1, m1, d1, A2, m2, d2, A3, m3, d3, rfl⟩ := bare_s RD2.out rdc; have HB3 := Lib.hid (HB2.out.trans (b3.mono HB2.out.size)); have OW3 := Lib.hid (ownsRow_only OW2.out (Only.of_below (F := fun _ => False) b3) (fun _ f => f.elim)); have RO3 := Lib.hid ((Rd.move (Moves.of_below b3 (fun _ hk _ => hk)) _).2.2 _ _ RO2.out); have HS3 := Lib.hid (Nat.lt_of_lt_of_le HS2.out b3.size); have RE3 := Lib.hid ((Rd.move (Moves.of_below (Q := fun k => Lo w k ∧ w.heap.size ≠ k) (Below.refl _ w3) (fun k hk _ => by have := HS2.out; unfold Lo at *; omega)) _).1 _ rdc); obtain ⟨⟨g0, g1, g2, g3, g4⟩, h0, h1, h2, h3, h4⟩ := own_cell5R (k1 := i * 5 + 1) (k2 := i * 5 + 2) (k3 := i * 5 + 3) (k4 := i * 5 + 4) OW3.out HK.out rfl rfl rfl rfl; have PU := Lib.hid (own_put5R (k1 := i * 5 + 1) (k2 := i * 5 + 2) (k3 := i * 5 + 3) (k4 := i * 5 + 4) OW3.out HK.out rfl rfl rfl rfl (.int .i64 q0) (.int .i64 q1) (.slice A1 m1 d1) (.slice A2 m2 d2) (.slice A3 m3 d3)); clear rdc b3))
    have ROF := Lib.hid ((Rd.move (Moves.of_only PU.out.2.out (fun k hk _ e => hk.2 e.symm) (fun _ hk _ => hk)) _).2.2 _ _ RO3.out)
    have REF := Lib.hid ((Rd.move (Moves.of_only PU.out.2.out (fun k hk _ e => hk.2 e.symm) (fun _ hk _ => hk)) _).1 _ RE3.out)
    have HBF := Lib.hid (HB3.out.trans (PU.out.2.out.below (B := w.heap.size) (fun n e => by omega) HB3.out.size))
    have HSF := Lib.hid (Nat.lt_of_lt_of_le HS3.out PU.out.2.out.size)
    refine ⟨⟨i + 1, _, _, ys ++ [.int .i64 q0, .int .i64 q1, .slice A1 m1 d1, .slice A2 m2 d2, .slice A3 m3 d3], rest, rfl, rfl, rfl, (by have := HLT.out; omega), ?_, HR.out, ?_, ?_, HBF.out, HSF.out⟩, ?_⟩
    ·rw [List.length_append, HK.out, Nat.add_mul]; simp
    ·have k := PU.out.1.out
     rw [List.append_assoc]
     exact k
    ·rw [HY.out]
     exact Rd.own_snoc _ _ _ _ #[.int .i64 q0, .int .i64 q1, .slice A1 m1 d1, .slice A2 m2 d2, .slice A3 m3 d3] ROF.out REF.out rfl
    ·have := HLT.out
     simp only [intOf]
     omega
   ·have hl1 : ¬ (i : Int) < (n : Int) := by omega
    obtain rfl : i = n := by omega
    obtain rfl : zs = [] := List.eq_nil_of_length_eq_zero (by rw [hz]; simp)
    clear hlt hi hz
    go_wp2_with fail
    go_ret
    refine ⟨_, rfl, ?_, HB.out⟩
    have o := OW.out
    rw [List.append_nil] at o
    have r := RO.out
    rw [HEX.out] at r
    exact Rd.of_own o ((Rd.move (Moves.of_below (Q := Lo w) (Below.refl _ wr) fun k hk _ => hk.1) x.bare).2.2 _ _ r) (by rw [HBL.out, HN.out]) (fun q e => (o.lt q e).1)
set_option maxRecDepth 20000 in
set_option maxHeartbeats 4000000 in
theorem each_b (w : World) (P : Nat → Prop) (x : X) (A : Option Addr) (n c : Nat) (h : Sl x.len (Rd w P x).row 1 (.slice A n c)) (hb : n ≤ 100000)
  (H : ∀ y ∈ x.elems, ∀ w1 (v0 : Value), (Rd w1 P y).cells #[v0] → Calls Tryz.prog 13 #[v0] w1 (EB y w1)) :
  Calls Tryz.prog 68 #[.slice A n c, .func (.func 13) #[] #[]] w (ES x 1 w) := by
 have HX := Lib.hid h
 have HN := Lib.hid (Sl.len h).1
 have EX : takeB x n = x.bare := by rw [HN.out]; exact takeB_all x 1 A 0 (by obtain ⟨A', c', e, -, -, hr⟩ := h; injection e with e1; subst e1; exact hr)
 have HEX := Lib.hid EX
 have HBL := Lib.hid (X.bare_len x)
 have HH := Lib.hid H
 have n0 : (0 : Int) ≤ (n : Int) := by omega
 have n1 : (n : Int) ≤ 100000 := by omega
 have HHB := Lib.hid hb
 clear H EX
 cases A with
 | none =>
  obtain rfl : c = 0 := (Sl.len h).2.2 rfl
  obtain rfl : n = 0 := Nat.le_zero.1 (Sl.len h).2.1
  have nq : ∀ W, (binOp .eql 32 (.slice none 0 0) (.slice none 0 0)).run Tryz.prog W = .ok (.bool true) W := fun _ => rfl
  clear h hb
  go_enter Tryz.func68, Tryz.ntmps68
  go_wp2_with fail
  go_ret
  refine ⟨_, rfl, ?_, Below.refl _ _⟩
  rw [← HEX.out, takeB_zero]
  exact sl_nil _ _ _
 | some p =>
  have nq : ∀ W, (binOp .eql 32 (.slice (some p) n c) (.slice none 0 0)).run Tryz.prog W = .ok (.bool false) W := fun _ => rfl
  clear h
  go_enter Tryz.func68, Tryz.ntmps68
  obtain ⟨ti, hti, hz, k1, k2⟩ := info_parts infoB1
  go_wp2_with (at_make; refine wpList_make_z rfl _ _ 32 rfl 23 ti _ 1 Tryz.underlying32 hti hz k1 n rfl rfl (by rw [k2]; omega) hb ?_; intro w1 xs hx own b1 hw; have HXS := Lib.hid hx; have OW := Lib.hid own; have B1 := Lib.hid b1; have HW := Lib.hid hw; clear hx own b1 hw hb hti hz k1 k2 ti)
  go_loopw [6, 7, 15] (fun u6 u7 u15 wr => ∃ (i : Nat) (p6 p7 : Value) (ys zs : List Value), u6 = p6 ∧ u7 = p7 ∧ u15 = .int .i64 (i : Int) ∧ i ≤ n ∧ ys.length = i * 1 ∧ zs.length = (n - i) * 1 ∧ wr.ownsRow w.heap.size 23 1 (.slice (some ⟨w.heap.size, 0, none⟩) n n) n (ys ++ zs) ∧ (Rd wr (fun k => Lo w k ∧ w.heap.size ≠ k) (takeB x i)).own 1 ys ∧ Below w.heap.size w wr ∧ w.heap.size < wr.heap.size) (fun _ _ u15 _ => (n : Int).toNat - (intOf u15).toNat)
  case atStart => exact ⟨0, undef, undef, [], xs, rfl, rfl, rfl, Nat.zero_le _, (Nat.zero_mul _).symm, HXS.out, OW.out, by rw [takeB_zero]; rfl, B1.out, HW.out⟩
  case round =>
   obtain ⟨i, p6, p7, ys, zs, rfl, rfl, rfl, hi, hy, hz, own, rdo, hbl, hsz⟩ := hrel
   clear OW B1 HW HXS
   have HB := Lib.hid hbl
   have OW := Lib.hid own
   have RO := Lib.hid rdo
   have HSZ := Lib.hid hsz
   have HK := Lib.hid hy
   have i0 : (0 : Int) ≤ (i : Int) := by omega
   have wi : wrap64 ((i : Int) + 1) = (i : Int) + 1 := by unfold wrap64; omega
   clear hbl own rdo hsz hy
   by_cases hlt : i < n
   ·obtain ⟨p', y, v0, ep, hy, c0, rd⟩ := Sl.at1 (Sl.bel HB.out HX.out) (by rw [← HN.out]; exact hlt)
    obtain rfl : p = p' := Option.some.inj ep
    clear ep
    obtain ⟨z0, rest, rfl⟩ := len1 (zs := zs) (by rw [hz]; exact Nat.le_trans (by omega) (Nat.mul_le_mul_right 1 (show 1 ≤ n - i by omega)))
    have hr : rest.length = (n - (i + 1)) * 1 := by
     have e : n - i = (n - (i + 1)) + 1 := by omega
     rw [e, Nat.add_mul] at hz
     simp at hz
     omega
    have HR := Lib.hid hr
    have RD := Lib.hid rd
    have HC := Lib.hid (HH.out y (List.mem_of_getElem? hy))
    have HY := Lib.hid (takeB_step x i y hy)
    have hl1 : (i : Int) < (n : Int) := by omega
    have HLT := Lib.hid hlt
    rw [Nat.mul_one] at c0 HK
    clear hi hy rd hlt hz hr
    have HB2 := HB
    have RD2 := RD
    have OW2 := OW
    have RO2 := RO
    have HS2 := HSZ
    go_wp2_with (first
     |(go_at_call 13; refine (HC.out _ v0 RD2.out).mono ?_; rintro e w3 ⟨u0, rfl, rdc, b3⟩; obtain ⟨A1, m1, d1, rfl⟩ := bare_b RD2.out rdc; have HB3 := Lib.hid (HB2.out.trans (b3.mono HB2.out.size)); have OW3 := Lib.hid (ownsRow_only OW2.out (Only.of_below (F := fun _ => False) b3) (fun _ f => f.elim)); have RO3 := Lib.hid ((Rd.move (Moves.of_below b3 (fun _ hk _ => hk)) _).2.2 _ _ RO2.out); have HS3 := Lib.hid (Nat.lt_of_lt_of_le HS2.out b3.size); have RE3 := Lib.hid ((Rd.move (Moves.of_below (Q := fun k => Lo w k ∧ w.heap.size ≠ k) (Below.refl _ w3) (fun k hk _ => by have := HS2.out; unfold Lo at *; omega)) _).1 _ rdc); obtain ⟨g0, h0⟩ := own_cell1R  OW3.out HK.out ; have PU := Lib.hid (own_put1R  OW3.out HK.out  (.slice A1 m1 d1)); clear rdc b3))
    have ROF := Lib.hid ((Rd.move (Moves.of_only PU.out.2.out (fun k hk _ e => hk.2 e.symm) (fun _ hk _ => hk)) _).2.2 _ _ RO3.out)
    have REF := Lib.hid ((Rd.move (Moves.of_only PU.out.2.out (fun k hk _ e => hk.2 e.symm) (fun _ hk _ => hk)) _).1 _ RE3.out)
    have HBF := Lib.hid (HB3.out.trans (PU.out.2.out.below (B := w.heap.size) (fun n e => by omega) HB3.out.size))
    have HSF := Lib.hid (Nat.lt_of_lt_of_le HS3.out PU.out.2.out.size)
    refine ⟨⟨i + 1, _, _, ys ++ [.slice A1 m1 d1], rest, rfl, rfl, rfl, (by have := HLT.out; omega), ?_, HR.out, ?_, ?_, HBF.out, HSF.out⟩, ?_⟩
    ·rw [List.length_append, HK.out, Nat.add_mul]; simp
    ·have k := PU.out.1.out
     rw [List.append_assoc]
     exact k
    ·rw [HY.out]
     exact Rd.own_snoc _ _ _ _ #[.slice A1 m1 d1] ROF.out REF.out rfl
    ·have := HLT.out
     simp only [intOf]
     omega
   ·have hl1 : ¬ (i : Int) < (n : Int) := by omega
    obtain rfl : i = n := by omega
    obtain rfl : zs = [] := List.eq_nil_of_length_eq_zero (by rw [hz]; simp)
    clear hlt hi hz
    go_wp2_with fail
    go_ret
    refine ⟨_, rfl, ?_, HB.out⟩
    have o := OW.out
    rw [List.append_nil] at o
    have r := RO.out
    rw [HEX.out] at r
    exact Rd.of_own o ((Rd.move (Moves.of_below (Q := Lo w) (Below.refl _ wr) fun k hk _ => hk.1) x.bare).2.2 _ _ r) (by rw [HBL.out, HN.out]) (fun q e => (o.lt q e).1)
end Go.Proofs.YtbcjpnmakcmndaaGreatDoor
