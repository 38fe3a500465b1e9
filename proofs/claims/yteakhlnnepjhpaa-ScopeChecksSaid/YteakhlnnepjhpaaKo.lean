/- Texts of one proof behind one another: PrY, PrX3. -/
import Derived.Test.YteakhlnnepjhpaaKm
import Derived.Deep.RegionLaw
import Derived.Deep.RegionHeld3
/- The document's parser: statements: rows of one's own in a statement's box that grow; an element stored behind a zero that was appended. -/
namespace Go.Proofs.Yteakhlnnepjhpaa
open Go.RowKit PrM
set_option linter.unusedVariables false
section
variable {w w' : World} {base q n z c : Nat} {ty : TypeId} {xs : List Value}
theorem own_heap (h : w.ownsRow base ty z (.slice (some ⟨q, 0, none⟩) n c) n xs) : ∃ cur, base ≤ q ∧ w.heap[q]? = some (.cells cur ty (0, 0)) ∧ cur.toList.take (n * z) = xs ∧ n ≤ c ∧ c ≤ maxLen ∧ cur.size = c * z := by
 rcases h.2 with ⟨e, -⟩ | ⟨g, cap, cur, e, hg, hb, hc, h4, hs, ht⟩
 ·cases e
 ·cases e
  exact ⟨cur, hg, hb, ht, hc, h4, hs⟩
theorem own_at (h : w.ownsRow base ty z (.slice (some ⟨q, 0, none⟩) n c) n xs) (j : Nat) (hj : j < xs.length) : w.cell? ⟨q, j, none⟩ = some xs[j] ∧ w.frozen? ⟨q, j, none⟩ = false := by
 obtain ⟨cur, -, hb, ht, -⟩ := own_heap h
 subst ht
 refine ⟨?_, ?_⟩
 ·unfold World.cell?
  rw [hb]
  simp at hj ⊢
 ·unfold World.frozen?
  rw [hb]
  simp
theorem own_set (h : w.ownsRow base ty z (.slice (some ⟨q, 0, none⟩) n c) n xs) (j : Nat) (u : Value) : (w.setCell ⟨q, j, none⟩ u).ownsRow base ty z (.slice (some ⟨q, 0, none⟩) n c) n (xs.set j u) := by
 obtain ⟨cur, hg, hb, ht, hc, h4, hs⟩ := own_heap h
 refine ⟨by rw [List.length_set]; exact h.1, .inr ⟨q, c, cur.setIfInBounds j u, rfl, hg, ?_, hc, h4, by simpa using hs, ?_⟩⟩
 ·show (w.setCell ⟨q, j, none⟩ u).heap[q]? = _
  simp [World.setCell, Array.getElem?_modify, hb]
 ·rw [Array.toList_setIfInBounds, List.take_set, ht]
end
theorem app_set {A : Type} (ys zs : List A) (j k : Nat) (u : A) (h : ys.length = k) : (ys ++ zs).set (k + j) u = ys ++ zs.set j u := by
 subst h
 rw [List.set_append_right _ _ (Nat.le_add_right _ _), Nat.add_sub_cancel_left]
/-- Seven cells behind a row's first ones. -/
theorem own_put7 {w : World} {base q n c k k1 k2 k3 k4 k5 k6 : Nat} {ty : TypeId} {ys : List Value} {z0 z1 z2 z3 z4 z5 z6 : Value} (h : w.ownsRow base ty 7 (.slice (some ⟨q, 0, none⟩) n c) n (ys ++ [z0, z1, z2, z3, z4, z5, z6])) (hk : ys.length = k) (e1 : k1 = k + 1) (e2 : k2 = k + 2) (e3 : k3 = k + 3) (e4 : k4 = k + 4) (e5 : k5 = k + 5) (e6 : k6 = k + 6) (u0 u1 u2 u3 u4 u5 u6 : Value) :
  Hid ((((((((w.setCell ⟨q, k, none⟩ u0).setCell ⟨q, k1, none⟩ u1).setCell ⟨q, k2, none⟩ u2).setCell ⟨q, k3, none⟩ u3).setCell ⟨q, k4, none⟩ u4).setCell ⟨q, k5, none⟩ u5).setCell ⟨q, k6, none⟩ u6).ownsRow base ty 7 (.slice (some ⟨q, 0, none⟩) n c) n (ys ++ [u0, u1, u2, u3, u4, u5, u6])) ∧ Hid (Only (fun i => i = q) w (((((((w.setCell ⟨q, k, none⟩ u0).setCell ⟨q, k1, none⟩ u1).setCell ⟨q, k2, none⟩ u2).setCell ⟨q, k3, none⟩ u3).setCell ⟨q, k4, none⟩ u4).setCell ⟨q, k5, none⟩ u5).setCell ⟨q, k6, none⟩ u6)) := by
 subst e1 e2 e3 e4 e5 e6
 refine ⟨?_, ?_⟩
 ·have a0 := own_set h (k + 0) u0
  rw [app_set _ _ _ _ _ hk] at a0
  have a1 := own_set a0 (k + 1) u1
  rw [app_set _ _ _ _ _ hk] at a1
  have a2 := own_set a1 (k + 2) u2
  rw [app_set _ _ _ _ _ hk] at a2
  have a3 := own_set a2 (k + 3) u3
  rw [app_set _ _ _ _ _ hk] at a3
  have a4 := own_set a3 (k + 4) u4
  rw [app_set _ _ _ _ _ hk] at a4
  have a5 := own_set a4 (k + 5) u5
  rw [app_set _ _ _ _ _ hk] at a5
  have a6 := own_set a5 (k + 6) u6
  rw [app_set _ _ _ _ _ hk] at a6
  exact a6
 ·exact Lib.hid ((((((((Only.refl (fun i => i = q) w).setCell (p := ⟨q, k, none⟩) (.inl rfl) u0).setCell (p := ⟨q, k + 1, none⟩) (.inl rfl) u1).setCell (p := ⟨q, k + 2, none⟩) (.inl rfl) u2).setCell (p := ⟨q, k + 3, none⟩) (.inl rfl) u3).setCell (p := ⟨q, k + 4, none⟩) (.inl rfl) u4).setCell (p := ⟨q, k + 5, none⟩) (.inl rfl) u5).setCell (p := ⟨q, k + 6, none⟩) (.inl rfl) u6)
theorem own_seven {w : World} {base q n c k k1 k2 k3 k4 k5 k6 : Nat} {ty : TypeId} {ys : List Value} {z0 z1 z2 z3 z4 z5 z6 : Value} (h : w.ownsRow base ty 7 (.slice (some ⟨q, 0, none⟩) n c) n (ys ++ [z0, z1, z2, z3, z4, z5, z6])) (hk : ys.length = k) (e1 : k1 = k + 1) (e2 : k2 = k + 2) (e3 : k3 = k + 3) (e4 : k4 = k + 4) (e5 : k5 = k + 5) (e6 : k6 = k + 6) :
  (w.cell? ⟨q, k, none⟩ = some z0 ∧ w.cell? ⟨q, k1, none⟩ = some z1 ∧ w.cell? ⟨q, k2, none⟩ = some z2 ∧ w.cell? ⟨q, k3, none⟩ = some z3 ∧ w.cell? ⟨q, k4, none⟩ = some z4 ∧ w.cell? ⟨q, k5, none⟩ = some z5 ∧ w.cell? ⟨q, k6, none⟩ = some z6) ∧
  w.frozen? ⟨q, k, none⟩ = false ∧ w.frozen? ⟨q, k1, none⟩ = false ∧ w.frozen? ⟨q, k2, none⟩ = false ∧ w.frozen? ⟨q, k3, none⟩ = false ∧ w.frozen? ⟨q, k4, none⟩ = false ∧ w.frozen? ⟨q, k5, none⟩ = false ∧ w.frozen? ⟨q, k6, none⟩ = false := by
 subst hk
 subst e1 e2 e3 e4 e5 e6
 have e : ∀ j (hj : j < 7), w.cell? ⟨q, ys.length + j, none⟩ = some ([z0, z1, z2, z3, z4, z5, z6][j]'hj) ∧ w.frozen? ⟨q, ys.length + j, none⟩ = false := fun j hj => by
  have k := own_at h (ys.length + j) (by simp; omega)
  refine ⟨k.1.trans ?_, k.2⟩
  rw [List.getElem_append_right (Nat.le_add_right _ _)]
  simp
 exact ⟨⟨(e 0 (by omega)).1, (e 1 (by omega)).1, (e 2 (by omega)).1, (e 3 (by omega)).1, (e 4 (by omega)).1, (e 5 (by omega)).1, (e 6 (by omega)).1⟩, (e 0 (by omega)).2, (e 1 (by omega)).2, (e 2 (by omega)).2, (e 3 (by omega)).2, (e 4 (by omega)).2, (e 5 (by omega)).2, (e 6 (by omega)).2⟩
section
variable {F : Nat → Prop} {w w' W : World} {v : Value} {l : X} {ys xs : List Value} {ty : TypeId} {z n : Nat}
theorem oxMv (hF : ∀ k, F k → k < W.heap.size) (o : Only F w w') (h : OwnX ty z W.heap.size (Lo W) w v l ys) : OwnX ty z W.heap.size (Lo W) w' v l ys := h.only o (fun k f => ⟨hF k f, by have := hF k f; unfold Lo; omega⟩)
theorem oxBel {B : Nat} (hB : w.heap.size ≤ B) (o : Below B w w') (h : OwnX ty z W.heap.size (Lo W) w v l ys) : OwnX ty z W.heap.size (Lo W) w' v l ys := h.only (Only.of_below (F := fun _ => False) (o.mono hB)) (fun _ f => f.elim)
theorem rnMv (hF : ∀ k, F k → k < W.heap.size) (o : Only F w w') (h : w.ownsRow W.heap.size ty z v n xs) : w'.ownsRow W.heap.size ty z v n xs := ownsRow_only h o hF
theorem rnBel {B : Nat} (hB : w.heap.size ≤ B) (o : Below B w w') (h : w.ownsRow W.heap.size ty z v n xs) : w'.ownsRow W.heap.size ty z v n xs := ownsRow_only h (Only.of_below (F := fun _ => False) (o.mono hB)) (fun _ f => f.elim)
end
/-- A name's row just made. -/
theorem rnOne {w W : World} (h : W.heap.size ≤ w.heap.size) (nm : ByteArray) : (w.alloc (.cells #[.string nm] 9)).ownsRow W.heap.size 9 1 (.slice (some ⟨w.heap.size, 0, none⟩) 1 1) [nm].length ([nm].map Value.string) :=
 ⟨rfl, .inr ⟨w.heap.size, 1, #[.string nm], rfl, h, Blk.new w _ _, Nat.le_refl _, (by unfold maxLen; omega), rfl, rfl⟩⟩
theorem oxOne {w W : World} {x : X} {v0 v1 v2 v3 v4 v5 v6 : Value} (h : W.heap.size ≤ w.heap.size) (rd : (Rd w (Lo W) x).cells #[v0, v1, v2, v3, v4, v5, v6]) : OwnX 39 7 W.heap.size (Lo W) (w.alloc (.cells #[v0, v1, v2, v3, v4, v5, v6] 39)) (.slice (some ⟨w.heap.size, 0, none⟩) 1 1) (X.one x) [v0, v1, v2, v3, v4, v5, v6] :=
 OwnX.one (z := 7) h (by decide) rfl rd
/-- An element stored behind a zero that was appended. -/
theorem OwnX.put {ty : TypeId} {z base : Nat} {Q : Nat → Prop} {w w6 w7 : World} {v v' : Value} {l x : X} {ys : List Value} {cs : Array Value} (h : OwnX ty z base Q w v l ys) (hx : (Rd w (fun k => Q k ∧ v.ownBlock ≠ some k) x).cells cs) (hz : cs.size = z)
  (own7 : w7.ownsRow base ty z v' (l.len + 1) (ys ++ cs.toList)) (g2 : w.grownBy w6 v.ownBlock) (o : Only (fun k => v'.ownBlock = some k) w6 w7) (loc : v'.ownBlock = v.ownBlock ∨ v'.ownBlock = some w.heap.size) : OwnX ty z base Q w7 v' (l.snoc x) (ys ++ cs.toList) := by
 have far : ∀ k, v.ownBlock ≠ some k → k < w.heap.size → v'.ownBlock ≠ some k := fun k hk hl e => by
  rcases loc with q | q
  ·rw [q] at e; exact hk e
  ·rw [q] at e; have := Option.some.inj e; omega
 refine ⟨by rw [X.len_snoc]; exact own7, ?_⟩
 exact (Rd.move ⟨Nat.le_trans g2.size o.size, fun p hp hl => (World.cell?_of_block (o.block p.block (Nat.lt_of_lt_of_le hl g2.size) (far _ hp.2 hl))).trans (World.cell?_of_block (g2.block p.block hl (fun e => hp.2 e.symm))), fun k hk hl => ⟨hk.1, far _ hk.2 hl⟩⟩ _).2.2 _ _ (Rd.own_snoc l z ys x cs h.rd hx hz)
/-- append of one expression's cells as a step of a drawn region. -/
theorem step_append_exp {w : World} {ops : Array Oper} {o : Oper} {a : Act} {K : Act → World → Prop} {Q : Exit → Act → World → Prop} {E : Prop} (hgd : o.guard = none) (s x : Operand)
  (ho : o.op = .call { callee := .builtin .append, args := #[s, x], argTypes := #[37, 37] })
  (base : Nat) (v : Value) (n : Nat) (ys : List Value) (hs : a.eval s = v) (hown : w.ownsRow base 39 7 v n ys)
  (b : Nat) (hx : a.eval x = .slice (some ⟨b, 0, none⟩) 1 1) (v0 v1 v2 v3 v4 v5 v6 : Value) (hu : Blk w b #[v0, v1, v2, v3, v4, v5, v6] 39) (h1 : ∀ u ∈ (#[v0, v1, v2, v3, v4, v5, v6] : Array Value).toList, u.oneCell' = true) (hlen : n ≤ 300000) (hb : base ≤ w.heap.size)
  (h : ∀ v' w', w'.ownsRow base 39 7 v' (n + 1) (ys ++ [v0, v1, v2, v3, v4, v5, v6]) → w.grownBy w' v.ownBlock → (v'.ownBlock = v.ownBlock ∨ v'.ownBlock = some w.heap.size) → K (a.put o.dst v') w') :
  if Region.wanted o (yielded ops a.tmps) = true then Oper.wp Try.prog o a w K Q else E := by
 have hw : Region.wanted o (yielded ops a.tmps) = true := by simp [Region.wanted, hgd]
 rw [if_pos hw]
 obtain ⟨i, hi, hz, k1, k2⟩ := info_parts infoE
 obtain ⟨v', w', hrun, h2, h3, _, h5⟩ := run_append_own_at (P := Try.prog) w base 37 o.type 39 i _ 7 96 Try.underlying37 hi hz k1 k2 rfl (by decide) v n ys hown ⟨b, 0, none⟩ 1 1 [v0, v1, v2, v3, v4, v5, v6] rfl (fun j y hj => by
  have e : (⟨b, 0, none⟩ : Addr).add j = ⟨b, j, none⟩ := by unfold Addr.add; split <;> simp_all
  rw [e]
  have h5 : w.heap[b]? = _ := hu
  simp only [World.cell?, h5]
  simpa using hj) (by simpa using h1) (by unfold maxLen; omega) (by omega) hb
 unfold Oper.wp
 simp [execOp, ho, resolve, invoke, builtin, hs, hx, hrun, Result.andThen]
 exact h v' w' h2 h3 h5
theorem infoB1 : (Try.prog.info? 23).map (fun i => (i.zero, i.size, i.bytes)) = some (some (.slice none 0 0), 1, 24) := by kernel_rfl
/-- append of one block as a step of a drawn region. -/
theorem step_append_blk {w : World} {ops : Array Oper} {o : Oper} {a : Act} {K : Act → World → Prop} {Q : Exit → Act → World → Prop} {E : Prop} (hgd : o.guard = none) (s x : Operand)
  (ho : o.op = .call { callee := .builtin .append, args := #[s, x], argTypes := #[40, 40] })
  (base : Nat) (v : Value) (n : Nat) (ys : List Value) (hs : a.eval s = v) (hown : w.ownsRow base 23 1 v n ys)
  (b : Nat) (hx : a.eval x = .slice (some ⟨b, 0, none⟩) 1 1) (u : Value) (hu : Blk w b #[u] 23) (h1 : u.oneCell' = true) (hlen : n ≤ 300000) (hb : base ≤ w.heap.size)
  (h : ∀ v' w', w'.ownsRow base 23 1 v' (n + 1) (ys ++ [u]) → w.grownBy w' v.ownBlock → (v'.ownBlock = v.ownBlock ∨ v'.ownBlock = some w.heap.size) → K (a.put o.dst v') w') :
  if Region.wanted o (yielded ops a.tmps) = true then Oper.wp Try.prog o a w K Q else E := by
 have hw : Region.wanted o (yielded ops a.tmps) = true := by simp [Region.wanted, hgd]
 rw [if_pos hw]
 obtain ⟨i, hi, hz, k1, k2⟩ := info_parts infoB1
 obtain ⟨v', w', hrun, h2, h3, _, h5⟩ := run_append_own_at (P := Try.prog) w base 40 o.type 23 i _ 1 24 Try.underlying40 hi hz k1 k2 rfl (by decide) v n ys hown ⟨b, 0, none⟩ 1 1 [u] rfl (fun j y hj => by
  match j with
  | 0 =>
   have h5 : w.heap[b]? = _ := hu
   simp at hj
   subst hj
   show w.cell? ⟨b, 0 + 0, none⟩ = _
   simp only [World.cell?, h5]
   simp
  | j + 1 => simp at hj) (by intro y hy; simp at hy; subst hy; exact h1) (by unfold maxLen; omega) (by omega) hb
 unfold Oper.wp
 simp [execOp, ho, resolve, invoke, builtin, hs, hx, hrun, Result.andThen]
 exact h v' w' h2 h3 h5
/-- All orders of a drawn region as one way on: what it leaves in the world, and its own temporaries. -/
theorem wp_cut13 {id : Nat} {ops : Array Oper} {bb : Bool} {Q : Exit → Act → World → Prop} {a : Act} {w : World} (n : Nat) (S : World → Prop) (h1 : ∀ Qp : Exit → Act → World → Prop, (∀ (w' : World) (u0 u1 u2 u3 u4 u5 u6 u7 u8 u9 u10 u11 u12 : Value), S w' → NoPanic Qp .normal (((((((((((((a.put (some (n + 0)) u0).put (some (n + 1)) u1).put (some (n + 2)) u2).put (some (n + 3)) u3).put (some (n + 4)) u4).put (some (n + 5)) u5).put (some (n + 6)) u6).put (some (n + 7)) u7).put (some (n + 8)) u8).put (some (n + 9)) u9).put (some (n + 10)) u10).put (some (n + 11)) u11).put (some (n + 12)) u12) w') → (Code.region id ops bb).wp Try.prog (NoPanic Qp) a w) (h2 : ∀ (w' : World) (u0 u1 u2 u3 u4 u5 u6 u7 u8 u9 u10 u11 u12 : Value), S w' → Q .normal (((((((((((((a.put (some (n + 0)) u0).put (some (n + 1)) u1).put (some (n + 2)) u2).put (some (n + 3)) u3).put (some (n + 4)) u4).put (some (n + 5)) u5).put (some (n + 6)) u6).put (some (n + 7)) u7).put (some (n + 8)) u8).put (some (n + 9)) u9).put (some (n + 10)) u10).put (some (n + 11)) u11).put (some (n + 12)) u12) w') : (Code.region id ops bb).wp Try.prog Q a w := wp_region_noPanic (h1 Q h2)
theorem cells_shape {w : World} {P : Nat → Prop} {x : X} {v0 v1 v2 v3 v4 v5 v6 : Value} (h : (Rd w P x).cells #[v0, v1, v2, v3, v4, v5, v6]) : ∃ k a n s op A1 n1 c1 A2 n2 c2, v0 = .int .i64 k ∧ v1 = .int .i64 a ∧ v2 = .int .i64 n ∧ v3 = .string s ∧ v4 = .int .i64 op ∧ v5 = .slice A1 n1 c1 ∧ v6 = .slice A2 n2 c2 := by
 cases x with
 | nil => exact h.elim
 | cons _ _ => exact h.elim
 | e k a n s op l f =>
  obtain ⟨vl, vf, e, ⟨A1, c1, e1, -⟩, ⟨A2, c2, e2, -⟩⟩ := h
  subst e1 e2
  injection e with e
  injection e with e0 e
  injection e with e1 e
  injection e with e2 e
  injection e with e3 e
  injection e with e4 e
  injection e with e5 e
  injection e with e6 e
  exact ⟨k, a, n, s, op, A1, _, c1, A2, _, c2, e0, e1, e2, e3, e4, e5, e6⟩
 | f ps b => obtain ⟨vl, vf, e, -⟩ := h; exact absurd (congrArg Array.size e) (by simp)
 | s k a ns l b => obtain ⟨vn, vl, vf, e, -⟩ := h; exact absurd (congrArg Array.size e) (by simp)
 | blk l => obtain ⟨v, e, -⟩ := h; exact absurd (congrArg Array.size e) (by simp)
theorem own_pos {w : World} {base n z : Nat} {ty : TypeId} {v : Value} {xs : List Value} (h : w.ownsRow base ty z v (n + 1) xs) : ∃ q c, v = .slice (some ⟨q, 0, none⟩) (n + 1) c ∧ base ≤ q := by
 rcases h.2 with ⟨-, e⟩ | ⟨g, cap, cur, e, hg, -⟩
 ·exact absurd e (by omega)
 ·exact ⟨g, cap, e, hg⟩
/-- Blocks from a world on, but a row's own. -/
def QV (W : World) (v : Value) : Nat → Prop := fun k => Lo W k ∧ v.ownBlock ≠ some k
section
variable {F : Nat → Prop} {w w' w6 w7 W : World} {u v v' : Value} {l : List ByteArray} {x : X} {ys : List Value} {ty : TypeId} {z : Nat}
theorem sqMv (hF : ∀ k, F k → k < W.heap.size) (o : Only F w w') (h : Strs w (QV W v) u l) : Strs w' (QV W v) u l := h.move (Moves.of_only o (fun k hk _ f => by have := hF k f; have hk : W.heap.size ≤ k := hk.1; omega) (fun _ hk _ => hk))
theorem sqBel {B : Nat} (hB : w.heap.size ≤ B) (o : Below B w w') (h : Strs w (QV W v) u l) : Strs w' (QV W v) u l := h.move (Moves.of_below (o.mono hB) (fun _ hk _ => hk))
theorem sqOf (o : Obj) (c : Nat) (n : Nat) (h : Strs w (Lo W) u l) : Strs (w.alloc o) (QV W (.slice (some ⟨w.heap.size, 0, none⟩) n c)) u l :=
 h.move (Moves.of_below (al_below w o) (fun k hk hl => ⟨hk, fun e => by have : w.heap.size = k := Option.some.inj e; omega⟩))
theorem moves_grow {Q : Nat → Prop} (OG : Only (fun k => v.ownBlock = some k) w w6) (o : Only (fun k => v'.ownBlock = some k) w6 w7) (loc : v'.ownBlock = v.ownBlock ∨ v'.ownBlock = some w.heap.size) : Moves w w7 (fun k => Q k ∧ v.ownBlock ≠ some k) (fun k => Q k ∧ v'.ownBlock ≠ some k) := by
 have far : ∀ k, v.ownBlock ≠ some k → k < w.heap.size → v'.ownBlock ≠ some k := fun k hk hl e => by
  rcases loc with q | q
  ·rw [q] at e; exact hk e
  ·rw [q] at e; have := Option.some.inj e; omega
 exact ⟨Nat.le_trans OG.size o.size, fun p hp hl => (World.cell?_of_block (o.block p.block (Nat.lt_of_lt_of_le hl OG.size) (far _ hp.2 hl))).trans (World.cell?_of_block (OG.block p.block hl hp.2)), fun k hk hl => ⟨hk.1, far _ hk.2 hl⟩⟩
theorem sqGrow (OG : Only (fun k => v.ownBlock = some k) w w6) (o : Only (fun k => v'.ownBlock = some k) w6 w7) (loc : v'.ownBlock = v.ownBlock ∨ v'.ownBlock = some w.heap.size) (h : Strs w (QV W v) u l) : Strs w7 (QV W v') u l := h.move (moves_grow OG o loc)
theorem moves_grow2 {Q : Nat → Prop} {b : Nat} (hb : ¬ Q b) (OG : Only (fun k => v.ownBlock = some k) w w6) (o : Only (fun k => v'.ownBlock = some k ∨ k = b) w6 w7) (loc : v'.ownBlock = v.ownBlock ∨ v'.ownBlock = some w.heap.size) : Moves w w7 (fun k => Q k ∧ v.ownBlock ≠ some k) (fun k => Q k ∧ v'.ownBlock ≠ some k) := by
 have far : ∀ k, v.ownBlock ≠ some k → k < w.heap.size → v'.ownBlock ≠ some k := fun k hk hl e => by
  rcases loc with q | q
  ·rw [q] at e; exact hk e
  ·rw [q] at e; have := Option.some.inj e; omega
 exact ⟨Nat.le_trans OG.size o.size, fun p hp hl => (World.cell?_of_block (o.block p.block (Nat.lt_of_lt_of_le hl OG.size) (fun f => f.elim (far _ hp.2 hl) (fun e => hb (e ▸ hp.1))))).trans (World.cell?_of_block (OG.block p.block hl hp.2)), fun k hk hl => ⟨hk.1, far _ hk.2 hl⟩⟩
theorem sqGrow2 {b : Nat} (hb : b < W.heap.size) (OG : Only (fun k => v.ownBlock = some k) w w6) (o : Only (fun k => v'.ownBlock = some k ∨ k = b) w6 w7) (loc : v'.ownBlock = v.ownBlock ∨ v'.ownBlock = some w.heap.size) (h : Strs w (QV W v) u l) : Strs w7 (QV W v') u l := h.move (moves_grow2 (by unfold Lo; omega) OG o loc)
theorem OwnX.put2 {ty : TypeId} {z base b : Nat} {Q : Nat → Prop} {l x : X} {cs : Array Value} (h : OwnX ty z base Q w v l ys) (hx : (Rd w (fun k => Q k ∧ v.ownBlock ≠ some k) x).cells cs) (hz : cs.size = z)
  (own7 : w7.ownsRow base ty z v' (l.len + 1) (ys ++ cs.toList)) (g2 : w.grownBy w6 v.ownBlock) (o : Only (fun k => v'.ownBlock = some k ∨ k = b) w6 w7) (loc : v'.ownBlock = v.ownBlock ∨ v'.ownBlock = some w.heap.size) (hb : ¬ Q b) : OwnX ty z base Q w7 v' (l.snoc x) (ys ++ cs.toList) :=
 ⟨by rw [X.len_snoc]; exact own7, (Rd.move (moves_grow2 hb (grown_only g2) o loc) _).2.2 _ _ (Rd.own_snoc l z ys x cs h.rd hx hz)⟩
theorem sqOut (h : Strs w (QV W v) u l) : Strs w (Lo W) u l := h.move (Moves.of_below (Below.refl _ w) (fun _ hk _ => hk.1))
end
end Go.Proofs.Yteakhlnnepjhpaa
/- The document's parser: statements: for with two numbers (printed by genpr11.py). -/
namespace Go.Proofs.Yteakhlnnepjhpaa
open Go.RowKit PrM
set_option linter.unusedVariables false
set_option linter.unusedSimpArgs false
section
variable {F g tg c : Nat} {T : List LxM.T}
set_option maxRecDepth 20000 in
set_option maxHeartbeats 16000000 in
theorem stat_for2 (hG : PrM.Good T) (hF : OkF g tg c T F) (W : World) (st : St) (a : Int) (b d : Nat) (h : PS W g tg c T st) (hb : Blk W b #[.int .i64 0, .int .i64 a, .slice none 0 0, .slice none 0 0, .slice none 0 0] 42) (hgb : g < b) (h0 : st.code = 0) (hd : d ≤ 100) (hm : 100 * (101 - d) + 6 ≤ F + 1) (q0 : is T ⟨#[108, 111, 99, 97, 108]⟩ st = false) (q1 : is T ⟨#[105, 102]⟩ st = false) (q2 : is T ⟨#[119, 104, 105, 108, 101]⟩ st = false) (q3 : is T ⟨#[114, 101, 112, 101, 97, 116]⟩ st = false) (q4 : is T ⟨#[102, 111, 114]⟩ st = true) (hc1 : is T ⟨#[44]⟩ (nameS T (up st)) = false) (hc2 : is T ⟨#[44]⟩ (((fs T F).exp (d : Int) (PrM.take T ⟨#[44]⟩ ((fs T F).exp (d : Int) (PrM.take T ⟨#[61]⟩ (nameS T (up st)))).2)).2) = false) :
  Calls Try.prog 38 #[ptr g, ptr b, .int .i64 (d : Int)] W (SQ W g b tg c T st ((fs T (F + 1)).stat (.s 0 a [] .nil .nil) d st)) := by
 have e1 : (fs T (F + 1)).stat (.s 0 a [] .nil .nil) d st = statS T (fs T F) d a st := rfl
 rw [e1]
 unfold PrM.statS
 rw [q0, if_neg (show ¬ (false = true) from nofun), q1, if_neg (show ¬ (false = true) from nofun), q2, if_neg (show ¬ (false = true) from nofun), q3, if_neg (show ¬ (false = true) from nofun), q4, if_pos rfl]
 dsimp only
 rw [hc1, if_neg (show ¬ (false = true) from nofun), hc2, if_neg (show ¬ (false = true) from nofun)]
 clear e1
 have EX := Lib.hid (fun W1 st1 (h1 : PS W1 g tg c T st1) => hF.exp W1 st1 d h1 hd (by omega))
 have BL := Lib.hid (fun W1 st1 (h1 : PS W1 g tg c T st1) => hF.block W1 st1 d h1 hd (by omega))
 have BO := Lib.hid (fun W1 st1 (h1 : PS W1 g tg c T st1) => hF.body W1 st1 d h1 hd (by omega))
 have BH := Lib.hid (fun W1 st1 P x v0 v1 v2 v3 v4 v5 v6 (h1 : PS W1 g tg c T st1) hr hp => hF.behind W1 st1 P x v0 v1 v2 v3 v4 v5 v6 d h1 hr hp hd (by omega))
 generalize (fs T F).exp (d : Int) = ex at *
 generalize (fs T F).block (d : Int) = bl at *
 generalize (fs T F).body (d : Int) = bo at *
 have HG := Lib.hid h.blk.lt
 have HB := Lib.hid hb.lt
 have HGB := Lib.hid hgb
 have HGG := Lib.hid hG
 have HFG : Hid (∀ k, k = g → k < W.heap.size) := Lib.hid (fun k e => e ▸ HG.out)
 have HFB : Hid (∀ k, k = b → k < W.heap.size) := Lib.hid (fun k e => e ▸ HB.out)
 have P0 := Lib.hid h
 have O0 := Lib.hid (Only.refl (fun k => k = g ∨ k = b) W)
 have KB0 := Lib.hid hb
 have i0 : (0 : Int) ≤ (d : Int) := by omega
 have i1 : (d : Int) ≤ 100 := by omega
 have OQ0 := Lib.hid (fun W1 (h1 : PS W1 g tg c T st) => opt_any h1 HGG.out ⟨#[108, 111, 99, 97, 108]⟩)
 have OQ1 := Lib.hid (fun W1 (h1 : PS W1 g tg c T st) => opt_any h1 HGG.out ⟨#[105, 102]⟩)
 have OQ2 := Lib.hid (fun W1 (h1 : PS W1 g tg c T st) => opt_any h1 HGG.out ⟨#[119, 104, 105, 108, 101]⟩)
 have OQ3 := Lib.hid (fun W1 (h1 : PS W1 g tg c T st) => opt_any h1 HGG.out ⟨#[114, 101, 112, 101, 97, 116]⟩)
 have OQ4 := Lib.hid (fun W1 (h1 : PS W1 g tg c T st) => opt_any h1 HGG.out ⟨#[102, 111, 114]⟩)
 unfold PrM.opt at OQ0 OQ1 OQ2 OQ3 OQ4
 rw [q0, if_neg (show ¬ (false = true) from nofun)] at OQ0
 rw [q1, if_neg (show ¬ (false = true) from nofun)] at OQ1
 rw [q2, if_neg (show ¬ (false = true) from nofun)] at OQ2
 rw [q3, if_neg (show ¬ (false = true) from nofun)] at OQ3
 rw [q4, if_pos rfl] at OQ4
 clear h hb hgb hG hF hm hd h0 q0 q1 q2 q3 q4
 have NA := Lib.hid (fun W1 (h1 : PS W1 g tg c T (up st)) => name_any h1 HGG.out)
 have HNI := Lib.hid (name_i (T := T) (up st))
 generalize nameT T (up st) = nm at *
 generalize nameS T (up st) = s1 at *
 have OC1 := Lib.hid (fun W1 (h1 : PS W1 g tg c T s1) => opt_any h1 HGG.out ⟨#[44]⟩)
 unfold PrM.opt at OC1
 rw [hc1, if_neg (show ¬ (false = true) from nofun)] at OC1
 clear hc1
 have TE1 := Lib.hid (fun W1 (h1 : PS W1 g tg c T s1) => take_any h1 HGG.out ⟨#[61]⟩)
 have HT1 := Lib.hid (take_i2 (T := T) ⟨#[61]⟩ s1)
 generalize PrM.take T ⟨#[61]⟩ s1 = s2 at *
 have EX1 := Lib.hid (fun W1 (h1 : PS W1 g tg c T s2) => EX.out W1 _ h1)
 generalize ex s2 = r at *
 have TE2 := Lib.hid (fun W1 (h1 : PS W1 g tg c T r.2) => take_any h1 HGG.out ⟨#[44]⟩)
 have HT2 := Lib.hid (take_i2 (T := T) ⟨#[44]⟩ r.2)
 generalize PrM.take T ⟨#[44]⟩ r.2 = s3 at *
 have EX2 := Lib.hid (fun W1 (h1 : PS W1 g tg c T s3) => EX.out W1 _ h1)
 generalize ex s3 = q at *
 have OC2 := Lib.hid (fun W1 (h1 : PS W1 g tg c T q.2) => opt_any h1 HGG.out ⟨#[44]⟩)
 unfold PrM.opt at OC2
 rw [hc2, if_neg (show ¬ (false = true) from nofun)] at OC2
 clear hc2
 have TD := Lib.hid (fun W1 (h1 : PS W1 g tg c T q.2) => take_any h1 HGG.out ⟨#[100, 111]⟩)
 have HTD := Lib.hid (take_i2 (T := T) ⟨#[100, 111]⟩ q.2)
 generalize PrM.take T ⟨#[100, 111]⟩ q.2 = s5 at *
 have BL2 := Lib.hid (fun W1 (h1 : PS W1 g tg c T s5) => BL.out W1 _ h1)
 generalize bl s5 = p4 at *
 have TN := Lib.hid (fun W1 (h1 : PS W1 g tg c T p4.2) => take_any h1 HGG.out ⟨#[101, 110, 100]⟩)
 have HTN := Lib.hid (take_i2 (T := T) ⟨#[101, 110, 100]⟩ p4.2)
 generalize PrM.take T ⟨#[101, 110, 100]⟩ p4.2 = s7 at *
 try dsimp only
 go_enter Try.func38, Try.ntmps38
 go_wp2_with (first
  |(go_at_call 35; (with_reducible refine (OQ0.out _ P0.out).mono ?_); rintro e w1 ⟨rfl, p, o⟩; have P1 := Lib.hid p; have O1 := Lib.hid (O0.out.trans o (fun n f => .inl (.inl f))); have KB1 := Lib.hid (KB0.out.only o (by have := HGB.out; omega)); clear p o)
  |(go_at_call 35; (with_reducible refine (OQ1.out _ P1.out).mono ?_); rintro e w2 ⟨rfl, p, o⟩; have P2 := Lib.hid p; have O2 := Lib.hid (O1.out.trans o (fun n f => .inl (.inl f))); have KB2 := Lib.hid (KB1.out.only o (by have := HGB.out; omega)); clear p o)
  |(go_at_call 35; (with_reducible refine (OQ2.out _ P2.out).mono ?_); rintro e w3 ⟨rfl, p, o⟩; have P3 := Lib.hid p; have O3 := Lib.hid (O2.out.trans o (fun n f => .inl (.inl f))); have KB3 := Lib.hid (KB2.out.only o (by have := HGB.out; omega)); clear p o)
  |(go_at_call 35; (with_reducible refine (OQ3.out _ P3.out).mono ?_); rintro e w4 ⟨rfl, p, o⟩; have P4 := Lib.hid p; have O4 := Lib.hid (O3.out.trans o (fun n f => .inl (.inl f))); have KB4 := Lib.hid (KB3.out.only o (by have := HGB.out; omega)); clear p o)
  |(go_at_call 35; (with_reducible refine (OQ4.out _ P4.out).mono ?_); rintro e w5 ⟨rfl, p, o⟩; have P5 := Lib.hid p; have O5 := Lib.hid (O4.out.trans o (fun n f => .inl (.inl f))); have KB5 := Lib.hid (KB4.out.only o (by have := HGB.out; omega)); clear p o)
  |(go_at_call 49; (with_reducible refine (NA.out _ P5.out).mono ?_); rintro e w6 ⟨rfl, p, o⟩; have P6 := Lib.hid p; have O6 := Lib.hid (O5.out.trans o (fun n f => .inl (.inl f))); have KB6 := Lib.hid (KB5.out.only o (by have := HGB.out; omega)); clear p o; have SN_7 := Lib.hid (strsOne O6.out.size nm); have P7 := Lib.hid (P6.out.alloc (.cells #[.string nm] 9)); have O7 := Lib.hid (O6.out.alloc (.cells #[.string nm] 9)); have KB7 := Lib.hid (blk_al (.cells #[.string nm] 9) KB6.out); obtain ⟨⟨z0_7, z1_7, z2_7, z3_7, z4_7⟩, f0_7, f1_7, f2_7, f3_7, f4_7⟩ := KB7.out.five; have ob := only_cell (w6.alloc (.cells #[.string nm] 9)) b 2 (.slice (some ⟨w6.heap.size, 0, none⟩) 1 1); have P8 := Lib.hid (P7.out.only ob (fun i e => .inl (by have := HGB.out; omega))); have O8 := Lib.hid (O7.out.trans ob (fun n f => .inl (.inr f))); have KB8 := Lib.hid (blkF2 KB7.out (.slice (some ⟨w6.heap.size, 0, none⟩) 1 1)); have SN_8 := Lib.hid (stMv HFB.out ob SN_7.out); clear ob; have ob := only_cell ((w6.alloc (.cells #[.string nm] 9)).setCell ⟨b, 2, none⟩ (.slice (some ⟨w6.heap.size, 0, none⟩) 1 1)) b 0 (.int .i64 6); have P9 := Lib.hid (P8.out.only ob (fun i e => .inl (by have := HGB.out; omega))); have O9 := Lib.hid (O8.out.trans ob (fun n f => .inl (.inr f))); have KB9 := Lib.hid (blkF0 KB8.out (.int .i64 6)); have SN_9 := Lib.hid (stMv HFB.out ob SN_8.out); clear ob)
  |(go_at_call 35; (with_reducible refine (OC1.out _ P9.out).mono ?_); rintro e w10 ⟨rfl, p, o⟩; have P10 := Lib.hid p; have O10 := Lib.hid (O9.out.trans o (fun n f => .inl (.inl f))); have KB10 := Lib.hid (KB9.out.only o (by have := HGB.out; omega)); have SN_10 := Lib.hid (stMv HFG.out o SN_9.out); clear p o)
  |(go_at_call 51; (with_reducible refine (TE1.out _ P10.out).mono ?_); rintro e w11 ⟨rfl, p, o⟩; have P11 := Lib.hid p; have O11 := Lib.hid (O10.out.trans o (fun n f => .inl (.inl f))); have KB11 := Lib.hid (KB10.out.only o (by have := HGB.out; omega)); have SN_11 := Lib.hid (stMv HFG.out o SN_10.out); clear p o)
  |(go_at_call 37; (with_reducible refine (EX1.out _ P11.out).mono ?_); rintro e w12 ⟨⟨u0, u1, u2, u3, u4, u5, u6, rfl, rd⟩, p, o, ii⟩; have P12 := Lib.hid p; have O12 := Lib.hid (O11.out.trans o (fun n f => .inl (.inl f))); have KB12 := Lib.hid (KB11.out.only o (by have := HGB.out; omega)); have SN_12 := Lib.hid (stMv HFG.out o SN_11.out); have RX_12 := Lib.hid (wideW O11.out.size rd); have IRX := Lib.hid ii; clear rd ii; clear p o; have SN_13 := Lib.hid (sqOf (.cells #[u0, u1, u2, u3, u4, u5, u6] 39) 1 1 SN_12.out); have SL_13 := Lib.hid (oxOne O12.out.size RX_12.out); have P13 := Lib.hid (P12.out.alloc (.cells #[u0, u1, u2, u3, u4, u5, u6] 39)); have O13 := Lib.hid (O12.out.alloc (.cells #[u0, u1, u2, u3, u4, u5, u6] 39)); have KB13 := Lib.hid (blk_al (.cells #[u0, u1, u2, u3, u4, u5, u6] 39) KB12.out); obtain ⟨⟨z0_13, z1_13, z2_13, z3_13, z4_13⟩, f0_13, f1_13, f2_13, f3_13, f4_13⟩ := KB13.out.five; have ob := only_cell (w12.alloc (.cells #[u0, u1, u2, u3, u4, u5, u6] 39)) b 3 (.slice (some ⟨w12.heap.size, 0, none⟩) 1 1); have P14 := Lib.hid (P13.out.only ob (fun i e => .inl (by have := HGB.out; omega))); have O14 := Lib.hid (O13.out.trans ob (fun n f => .inl (.inr f))); have KB14 := Lib.hid (blkF3 KB13.out (.slice (some ⟨w12.heap.size, 0, none⟩) 1 1)); have SL_14 := Lib.hid (oxMv HFB.out ob SL_13.out); have SN_14 := Lib.hid (sqMv HFB.out ob SN_13.out); clear ob)
  |(go_at_call 51; (with_reducible refine (TE2.out _ P14.out).mono ?_); rintro e w15 ⟨rfl, p, o⟩; have P15 := Lib.hid p; have O15 := Lib.hid (O14.out.trans o (fun n f => .inl (.inl f))); have KB15 := Lib.hid (KB14.out.only o (by have := HGB.out; omega)); have SL_15 := Lib.hid (oxMv HFG.out o SL_14.out); have SN_15 := Lib.hid (sqMv HFG.out o SN_14.out); clear p o))
 refine wp_cut13 242 (fun w' => ∃ (q6 c6 : Nat) (ys : List Value), PS w' g tg c T q.2 ∧ Only (fun k => k = g ∨ k = b) W w' ∧ Blk w' b #[.int .i64 6, .int .i64 a, .slice (some ⟨w6.heap.size, 0, none⟩) 1 1, (.slice (some ⟨q6, 0, none⟩) (2) c6), .slice none 0 0] 42 ∧ OwnX 39 7 W.heap.size (Lo W) w' (.slice (some ⟨q6, 0, none⟩) (2) c6) (X.snoc (X.one r.1) q.1) ys ∧ Strs w' (QV W (.slice (some ⟨q6, 0, none⟩) (2) c6)) (.slice (some ⟨w6.heap.size, 0, none⟩) 1 1) [nm] ∧ s3.i ≤ q.2.i) ?_ ?_
 ·intro Qp hQp
  simp only [Act.put, List.setIfInBounds_toArray, List.set_cons_zero, List.set_cons_succ, Nat.reduceAdd] at hQp
  have HQP := Lib.hid hQp
  clear hQp
  have mixed : Try.prog.follows .mixedOrders = true := by kernel_rfl
  have PA := Lib.hid (P15.out.sm (Sm.drewn w15))
  have PB := Lib.hid ((P15.out.alloc (.cells #[.int .i64 0, .int .i64 0, .int .i64 0, .string ⟨#[]⟩, .int .i64 0, .slice none 0 0, .slice none 0 0] 39)).sm (Sm.drewn _))
  obtain ⟨⟨z0, z1, z2, z3, z4⟩, -⟩ := KB15.out.five
  have za3 := keep_al (.cells #[.int .i64 0, .int .i64 0, .int .i64 0, .string ⟨#[]⟩, .int .i64 0, .slice none 0 0, .slice none 0 0] 39) z3
  have HK7 := Lib.hid (show [u0, u1, u2, u3, u4, u5, u6].length = 7 from rfl)
  go_region_law (first | (refine step_append_exp rfl (.tmp 245) (.tmp 250) rfl W.heap.size (.slice (some ⟨w12.heap.size, 0, none⟩) 1 1) (1) ([u0, u1, u2, u3, u4, u5, u6]) ?_ ?_ (w16.heap.size) ?_ (.int .i64 0) (.int .i64 0) (.int .i64 0) (.string ⟨#[]⟩) (.int .i64 0) (.slice none 0 0) (.slice none 0 0) ?_ ?_ ?_ ?_ ?_; rfl; exact (oxBel (Nat.le_refl _) (al_below w16 (.cells #[.int .i64 0, .int .i64 0, .int .i64 0, .string ⟨#[]⟩, .int .i64 0, .slice none 0 0, .slice none 0 0] 39)) SL_16.out).row; rfl; exact Blk.new w16 #[.int .i64 0, .int .i64 0, .int .i64 0, .string ⟨#[]⟩, .int .i64 0, .slice none 0 0, .slice none 0 0] 39; (intro u hu; simp at hu; rcases hu with rfl | rfl | rfl | rfl | rfl | rfl | rfl <;> rfl); omega; exact Nat.le_trans O16.out.size (Nat.le_of_lt (al_lt w16 _)); intro v6 w6 own6 g6 l6; obtain ⟨q6, c6, rfl, hq6⟩ := own_pos own6; have Px := Lib.hid (P16.out.alloc (.cells #[.int .i64 0, .int .i64 0, .int .i64 0, .string ⟨#[]⟩, .int .i64 0, .slice none 0 0, .slice none 0 0] 39)); have Ox := Lib.hid (O16.out.alloc (.cells #[.int .i64 0, .int .i64 0, .int .i64 0, .string ⟨#[]⟩, .int .i64 0, .slice none 0 0, .slice none 0 0] 39)); have KBx := Lib.hid (blk_al (.cells #[.int .i64 0, .int .i64 0, .int .i64 0, .string ⟨#[]⟩, .int .i64 0, .slice none 0 0, .slice none 0 0] 39) KB16.out); have REx := Lib.hid (mv_below (al_below w16 (.cells #[.int .i64 0, .int .i64 0, .int .i64 0, .string ⟨#[]⟩, .int .i64 0, .slice none 0 0, .slice none 0 0] 39)) RE_16.out); have SL_x := Lib.hid (oxBel (Nat.le_refl _) (al_below w16 (.cells #[.int .i64 0, .int .i64 0, .int .i64 0, .string ⟨#[]⟩, .int .i64 0, .slice none 0 0, .slice none 0 0] 39)) SL_16.out); have SN_x := Lib.hid (sqBel (Nat.le_refl _) (al_below w16 (.cells #[.int .i64 0, .int .i64 0, .int .i64 0, .string ⟨#[]⟩, .int .i64 0, .slice none 0 0, .slice none 0 0] 39)) SN_16.out); have OG := Lib.hid (grown_only g6); have L6 := Lib.hid l6; have HQ6 := Lib.hid hq6; have BQ := Lib.hid (show b ≠ q6 by have := HB.out; omega); have GQ := Lib.hid (show g < q6 by have := HG.out; omega); have hown := Lib.hid (fun k (e : (.slice (some ⟨w12.heap.size, 0, none⟩) 1 1 : Value).ownBlock = some k) => (SL_x.out.row.lt k e).1); have P6 := Lib.hid (Px.out.only OG.out (fun i e => .inl (by have := hown.out i e; have := HG.out; omega))); have O6 := Lib.hid (Ox.out.trans OG.out (fun i e => .inr (hown.out i e))); have KB6 := Lib.hid (KBx.out.only OG.out (fun e => by have := hown.out _ e; have := HB.out; omega)); obtain ⟨⟨s0, s1, s2_, s3_, s4_, s5_, s6_⟩, h0, h1, h2, h3, h4, h5, h6⟩ := own_seven (k1 := 8) (k2 := 9) (k3 := 10) (k4 := 11) (k5 := 12) (k6 := 13) own6 HK7.out rfl rfl rfl rfl rfl rfl; have PU := Lib.hid (own_put7 (k1 := 8) (k2 := 9) (k3 := 10) (k4 := 11) (k5 := 12) (k6 := 13) own6 HK7.out rfl rfl rfl rfl rfl rfl (.int .i64 pk) (.int .i64 pa) (.int .i64 pn) (.string ps) (.int .i64 po) (.slice pA pm pc) (.slice pB pi pd)); have KB7 := Lib.hid (KB6.out.only PU.out.2.out BQ.out); obtain ⟨⟨r0, r1, r2, r3, r4⟩, f0, f1, f2, f3, f4⟩ := KB7.out.five; obtain ⟨⟨v0_, v1_, v2_, v3_, v4_⟩, fv0, fv1, fv2, fv3, fv4⟩ := KB6.out.five; have KBs := Lib.hid (blkF3 KB6.out (.slice (some ⟨q6, 0, none⟩) (2) c6)); have obs := Lib.hid (only_cell w6 b 3 (.slice (some ⟨q6, 0, none⟩) (2) c6)); have own6b := Lib.hid (ownsRow_only own6 obs.out (fun k e => by have := HB.out; omega)); obtain ⟨⟨sb0, sb1, sb2, sb3, sb4, sb5, sb6⟩, hb0, hb1, hb2, hb3, hb4, hb5, hb6⟩ := own_seven (k1 := 8) (k2 := 9) (k3 := 10) (k4 := 11) (k5 := 12) (k6 := 13) own6b.out HK7.out rfl rfl rfl rfl rfl rfl; have PUb := Lib.hid (own_put7 (k1 := 8) (k2 := 9) (k3 := 10) (k4 := 11) (k5 := 12) (k6 := 13) own6b.out HK7.out rfl rfl rfl rfl rfl rfl (.int .i64 pk) (.int .i64 pa) (.int .i64 pn) (.string ps) (.int .i64 po) (.slice pA pm pc) (.slice pB pi pd)); clear own6 g6 l6 hq6) | (refine step_append_exp rfl (.tmp 245) (.tmp 250) rfl W.heap.size (.slice (some ⟨w12.heap.size, 0, none⟩) 1 1) (1) ([u0, u1, u2, u3, u4, u5, u6]) ?_ ?_ (w15.heap.size) ?_ (.int .i64 0) (.int .i64 0) (.int .i64 0) (.string ⟨#[]⟩) (.int .i64 0) (.slice none 0 0) (.slice none 0 0) ?_ ?_ ?_ ?_ ?_; rfl; exact SL_16.out.row; rfl; exact KZ9.out; (intro u hu; simp at hu; rcases hu with rfl | rfl | rfl | rfl | rfl | rfl | rfl <;> rfl); omega; exact O16.out.size; intro v6 w6 own6 g6 l6; obtain ⟨q6, c6, rfl, hq6⟩ := own_pos own6; have Px := P16; have Ox := O16; have KBx := KB16; have REx := RE_16; have SL_x := SL_16; have SN_x := SN_16; have OG := Lib.hid (grown_only g6); have L6 := Lib.hid l6; have HQ6 := Lib.hid hq6; have BQ := Lib.hid (show b ≠ q6 by have := HB.out; omega); have GQ := Lib.hid (show g < q6 by have := HG.out; omega); have hown := Lib.hid (fun k (e : (.slice (some ⟨w12.heap.size, 0, none⟩) 1 1 : Value).ownBlock = some k) => (SL_x.out.row.lt k e).1); have P6 := Lib.hid (Px.out.only OG.out (fun i e => .inl (by have := hown.out i e; have := HG.out; omega))); have O6 := Lib.hid (Ox.out.trans OG.out (fun i e => .inr (hown.out i e))); have KB6 := Lib.hid (KBx.out.only OG.out (fun e => by have := hown.out _ e; have := HB.out; omega)); obtain ⟨⟨s0, s1, s2_, s3_, s4_, s5_, s6_⟩, h0, h1, h2, h3, h4, h5, h6⟩ := own_seven (k1 := 8) (k2 := 9) (k3 := 10) (k4 := 11) (k5 := 12) (k6 := 13) own6 HK7.out rfl rfl rfl rfl rfl rfl; have PU := Lib.hid (own_put7 (k1 := 8) (k2 := 9) (k3 := 10) (k4 := 11) (k5 := 12) (k6 := 13) own6 HK7.out rfl rfl rfl rfl rfl rfl (.int .i64 pk) (.int .i64 pa) (.int .i64 pn) (.string ps) (.int .i64 po) (.slice pA pm pc) (.slice pB pi pd)); have KB7 := Lib.hid (KB6.out.only PU.out.2.out BQ.out); obtain ⟨⟨r0, r1, r2, r3, r4⟩, f0, f1, f2, f3, f4⟩ := KB7.out.five; obtain ⟨⟨v0_, v1_, v2_, v3_, v4_⟩, fv0, fv1, fv2, fv3, fv4⟩ := KB6.out.five; have KBs := Lib.hid (blkF3 KB6.out (.slice (some ⟨q6, 0, none⟩) (2) c6)); have obs := Lib.hid (only_cell w6 b 3 (.slice (some ⟨q6, 0, none⟩) (2) c6)); have own6b := Lib.hid (ownsRow_only own6 obs.out (fun k e => by have := HB.out; omega)); obtain ⟨⟨sb0, sb1, sb2, sb3, sb4, sb5, sb6⟩, hb0, hb1, hb2, hb3, hb4, hb5, hb6⟩ := own_seven (k1 := 8) (k2 := 9) (k3 := 10) (k4 := 11) (k5 := 12) (k6 := 13) own6b.out HK7.out rfl rfl rfl rfl rfl rfl; have PUb := Lib.hid (own_put7 (k1 := 8) (k2 := 9) (k3 := 10) (k4 := 11) (k5 := 12) (k6 := 13) own6b.out HK7.out rfl rfl rfl rfl rfl rfl (.int .i64 pk) (.int .i64 pa) (.int .i64 pn) (.string ps) (.int .i64 po) (.slice pA pm pc) (.slice pB pi pd)); clear own6 g6 l6 hq6) | (go_simp; go_at_call 37; refine (EX2.out _ PA.out).mono ?_; rintro e w16 ⟨⟨p0, p1, p2, p3, p4, p5, p6, rfl, rd⟩, p, o, ii⟩; obtain ⟨pk, pa, pn, ps, po, pA, pm, pc, pB, pi, pd, rfl, rfl, rfl, rfl, rfl, rfl, rfl⟩ := cells_shape rd; have o : Only (fun b => b = g) w15 w16 := ⟨o.os, o.tape, o.output, o.size, o.block⟩; have P16 := Lib.hid p; have O16 := Lib.hid (O15.out.trans o (fun n f => .inl (.inl f))); have KB16 := Lib.hid (KB15.out.only o (by have := HGB.out; omega)); have SL_16 := Lib.hid (oxMv HFG.out o SL_15.out); have SN_16 := Lib.hid (sqMv HFG.out o SN_15.out); have RE_16 := Lib.hid (OwnX.elem (w := w16) (w1 := w15) SL_15.out (fun k hk => Nat.le_trans O15.out.size hk) rd); have IQ2 := Lib.hid ii; clear p o ii rd; obtain ⟨⟨y0, y1, y2, y3, y4⟩, -⟩ := KB16.out.five; have ya3 := keep_al (.cells #[.int .i64 0, .int .i64 0, .int .i64 0, .string ⟨#[]⟩, .int .i64 0, .slice none 0 0, .slice none 0 0] 39) y3) | (go_simp; go_at_call 37; refine (EX2.out _ PB.out).mono ?_; rintro e w16 ⟨⟨p0, p1, p2, p3, p4, p5, p6, rfl, rd⟩, p, o, ii⟩; obtain ⟨pk, pa, pn, ps, po, pA, pm, pc, pB, pi, pd, rfl, rfl, rfl, rfl, rfl, rfl, rfl⟩ := cells_shape rd; have o : Only (fun b => b = g) (w15.alloc (.cells #[.int .i64 0, .int .i64 0, .int .i64 0, .string ⟨#[]⟩, .int .i64 0, .slice none 0 0, .slice none 0 0] 39)) w16 := ⟨o.os, o.tape, o.output, o.size, o.block⟩; have Oz := Lib.hid (O15.out.alloc (.cells #[.int .i64 0, .int .i64 0, .int .i64 0, .string ⟨#[]⟩, .int .i64 0, .slice none 0 0, .slice none 0 0] 39)); have KBz := Lib.hid (blk_al (.cells #[.int .i64 0, .int .i64 0, .int .i64 0, .string ⟨#[]⟩, .int .i64 0, .slice none 0 0, .slice none 0 0] 39) KB15.out); have KZ := Lib.hid (Blk.new w15 #[.int .i64 0, .int .i64 0, .int .i64 0, .string ⟨#[]⟩, .int .i64 0, .slice none 0 0, .slice none 0 0] 39); have SL_z := Lib.hid (oxBel (Nat.le_refl _) (al_below w15 (.cells #[.int .i64 0, .int .i64 0, .int .i64 0, .string ⟨#[]⟩, .int .i64 0, .slice none 0 0, .slice none 0 0] 39)) SL_15.out); have SN_z := Lib.hid (sqBel (Nat.le_refl _) (al_below w15 (.cells #[.int .i64 0, .int .i64 0, .int .i64 0, .string ⟨#[]⟩, .int .i64 0, .slice none 0 0, .slice none 0 0] 39)) SN_15.out); have P16 := Lib.hid p; have O16 := Lib.hid (Oz.out.trans o (fun n f => .inl (.inl f))); have KB16 := Lib.hid (KBz.out.only o (by have := HGB.out; omega)); have SL_16 := Lib.hid (oxMv HFG.out o SL_z.out); have SN_16 := Lib.hid (sqMv HFG.out o SN_z.out); have RE_16 := Lib.hid (OwnX.elem (w := w16) (w1 := (w15.alloc (.cells #[.int .i64 0, .int .i64 0, .int .i64 0, .string ⟨#[]⟩, .int .i64 0, .slice none 0 0, .slice none 0 0] 39))) SL_z.out (fun k hk => Nat.le_trans Oz.out.size hk) rd); have IQ2 := Lib.hid ii; have N9 := Lib.hid (show W.heap.size ≤ w15.heap.size from O15.out.size); have KZ9 := Lib.hid (KZ.out.only o (by have := HG.out; have := N9.out; omega)); clear p o ii rd; obtain ⟨⟨y0, y1, y2, y3, y4⟩, -⟩ := KB16.out.five))
  all_goals
  all_goals first
   |(have own7 := PU.out.1
     have o7 := PU.out.2
     have P7 := Lib.hid (P6.out.only o7.out (fun i e => .inl (by subst e; exact GQ.out)))
     have O7 := Lib.hid (O6.out.trans o7.out (fun i e => .inr (by subst e; exact HQ6.out)))
     have ob := Lib.hid (only_cell (((((((w6.setCell ⟨q6, 7, none⟩ (.int .i64 pk)).setCell ⟨q6, 8, none⟩ (.int .i64 pa)).setCell ⟨q6, 9, none⟩ (.int .i64 pn)).setCell ⟨q6, 10, none⟩ (.string ps)).setCell ⟨q6, 11, none⟩ (.int .i64 po)).setCell ⟨q6, 12, none⟩ (.slice pA pm pc)).setCell ⟨q6, 13, none⟩ (.slice pB pi pd)) b 3 (.slice (some ⟨q6, 0, none⟩) (2) c6))
     have P9 := Lib.hid (P7.out.only ob.out (fun i e => .inl (by have := HGB.out; omega)))
     have O9 := Lib.hid (O7.out.trans ob.out (fun n f => .inl (.inr f)))
     have KB9 := Lib.hid (blkF3 KB7.out (.slice (some ⟨q6, 0, none⟩) (2) c6))
     have o7b : Only (fun k => ((.slice (some ⟨q6, 0, none⟩) (2) c6) : Value).ownBlock = some k) w6 (((((((w6.setCell ⟨q6, 7, none⟩ (.int .i64 pk)).setCell ⟨q6, 8, none⟩ (.int .i64 pa)).setCell ⟨q6, 9, none⟩ (.int .i64 pn)).setCell ⟨q6, 10, none⟩ (.string ps)).setCell ⟨q6, 11, none⟩ (.int .i64 po)).setCell ⟨q6, 12, none⟩ (.slice pA pm pc)).setCell ⟨q6, 13, none⟩ (.slice pB pi pd)) := ⟨o7.out.os, o7.out.tape, o7.out.output, o7.out.size, fun k hk hn => o7.out.block k hk (fun e => hn (by rw [e]; rfl))⟩
     have SLp := OwnX.put (cs := #[(.int .i64 pk), (.int .i64 pa), (.int .i64 pn), (.string ps), (.int .i64 po), (.slice pA pm pc), (.slice pB pi pd)]) SL_x.out REx.out rfl own7.out ⟨OG.out.os, OG.out.tape, OG.out.output, OG.out.size, fun k hk hn => OG.out.block k hk (fun e => hn e.symm)⟩ o7b L6.out
     have SL_9 := Lib.hid (oxMv HFB.out ob.out SLp)
     have SN_9 := Lib.hid (sqMv HFB.out ob.out (sqGrow OG.out o7b L6.out SN_x.out))
     generalize ((((((((w6.setCell ⟨q6, 7, none⟩ (.int .i64 pk)).setCell ⟨q6, 8, none⟩ (.int .i64 pa)).setCell ⟨q6, 9, none⟩ (.int .i64 pn)).setCell ⟨q6, 10, none⟩ (.string ps)).setCell ⟨q6, 11, none⟩ (.int .i64 po)).setCell ⟨q6, 12, none⟩ (.slice pA pm pc)).setCell ⟨q6, 13, none⟩ (.slice pB pi pd)).setCell ⟨b, 3, none⟩ (.slice (some ⟨q6, 0, none⟩) (2) c6)) = wz at *
     with_reducible refine HQP.out wz _ _ _ _ _ _ _ _ _ _ _ _ _ ?_
     exact ⟨q6, c6, _, P9.out, O9.out, KB9.out, SL_9.out, SN_9.out, IQ2.out⟩)
   |(have own7 := PUb.out.1
     have o7 := PUb.out.2
     have P7 := Lib.hid (P6.out.only obs.out (fun i e => .inl (by have := HGB.out; omega)))
     have O7 := Lib.hid (O6.out.trans obs.out (fun n f => .inl (.inr f)))
     have P9 := Lib.hid (P7.out.only o7.out (fun i e => .inl (by subst e; exact GQ.out)))
     have O9 := Lib.hid (O7.out.trans o7.out (fun i e => .inr (by subst e; exact HQ6.out)))
     have KB9 := Lib.hid (KBs.out.only o7.out BQ.out)
     have o7b : Only (fun k => ((.slice (some ⟨q6, 0, none⟩) (2) c6) : Value).ownBlock = some k) (w6.setCell ⟨b, 3, none⟩ (.slice (some ⟨q6, 0, none⟩) (2) c6)) ((((((((w6.setCell ⟨b, 3, none⟩ (.slice (some ⟨q6, 0, none⟩) (2) c6)).setCell ⟨q6, 7, none⟩ (.int .i64 pk)).setCell ⟨q6, 8, none⟩ (.int .i64 pa)).setCell ⟨q6, 9, none⟩ (.int .i64 pn)).setCell ⟨q6, 10, none⟩ (.string ps)).setCell ⟨q6, 11, none⟩ (.int .i64 po)).setCell ⟨q6, 12, none⟩ (.slice pA pm pc)).setCell ⟨q6, 13, none⟩ (.slice pB pi pd)) := ⟨o7.out.os, o7.out.tape, o7.out.output, o7.out.size, fun k hk hn => o7.out.block k hk (fun e => hn (by rw [e]; rfl))⟩
     have o7b2 : Only (fun k => ((.slice (some ⟨q6, 0, none⟩) (2) c6) : Value).ownBlock = some k ∨ k = b) w6 ((((((((w6.setCell ⟨b, 3, none⟩ (.slice (some ⟨q6, 0, none⟩) (2) c6)).setCell ⟨q6, 7, none⟩ (.int .i64 pk)).setCell ⟨q6, 8, none⟩ (.int .i64 pa)).setCell ⟨q6, 9, none⟩ (.int .i64 pn)).setCell ⟨q6, 10, none⟩ (.string ps)).setCell ⟨q6, 11, none⟩ (.int .i64 po)).setCell ⟨q6, 12, none⟩ (.slice pA pm pc)).setCell ⟨q6, 13, none⟩ (.slice pB pi pd)) := ⟨(o7.out.os).trans obs.out.os, (o7.out.tape).trans obs.out.tape, (o7.out.output).trans obs.out.output, Nat.le_trans obs.out.size o7.out.size, fun k hk hn => (o7.out.block k (Nat.lt_of_lt_of_le hk obs.out.size) (fun e => hn (.inl (by rw [e]; rfl)))).trans (obs.out.block k hk (fun e => hn (.inr e)))⟩
     have SL_9 := Lib.hid (OwnX.put2 (b := b) (cs := #[(.int .i64 pk), (.int .i64 pa), (.int .i64 pn), (.string ps), (.int .i64 po), (.slice pA pm pc), (.slice pB pi pd)]) SL_x.out REx.out rfl own7.out ⟨OG.out.os, OG.out.tape, OG.out.output, OG.out.size, fun k hk hn => OG.out.block k hk (fun e => hn e.symm)⟩ o7b2 L6.out (by have := HB.out; unfold Lo; omega))
     have SN_9 := Lib.hid (sqGrow2 (b := b) HB.out OG.out o7b2 L6.out SN_x.out)
     generalize ((((((((w6.setCell ⟨b, 3, none⟩ (.slice (some ⟨q6, 0, none⟩) (2) c6)).setCell ⟨q6, 7, none⟩ (.int .i64 pk)).setCell ⟨q6, 8, none⟩ (.int .i64 pa)).setCell ⟨q6, 9, none⟩ (.int .i64 pn)).setCell ⟨q6, 10, none⟩ (.string ps)).setCell ⟨q6, 11, none⟩ (.int .i64 po)).setCell ⟨q6, 12, none⟩ (.slice pA pm pc)).setCell ⟨q6, 13, none⟩ (.slice pB pi pd)) = wz at *
     with_reducible refine HQP.out wz _ _ _ _ _ _ _ _ _ _ _ _ _ ?_
     exact ⟨q6, c6, _, P9.out, O9.out, KB9.out, SL_9.out, SN_9.out, IQ2.out⟩)
 ·intro w35 x0 x1 x2 x3 x4 x5 x6 x7 x8 x9 x10 x11 x12 hS
  obtain ⟨q6, c6, ys35, p, o, kb, sl, sn, ii⟩ := hS
  have P35 := Lib.hid p
  have O35 := Lib.hid o
  have KB35 := Lib.hid kb
  have SL_35 := Lib.hid sl
  have SN_35 := Lib.hid sn
  have IQ2 := Lib.hid ii
  clear p o kb sl sn ii
  simp only [Act.put, List.setIfInBounds_toArray, List.set_cons_zero, List.set_cons_succ, Nat.reduceAdd]
  go_wp2_with (first
   |(go_at_call 35; (with_reducible refine (OC2.out _ P35.out).mono ?_); rintro e w36 ⟨rfl, p, o⟩; have P36 := Lib.hid p; have O36 := Lib.hid (O35.out.trans o (fun n f => .inl (.inl f))); have KB36 := Lib.hid (KB35.out.only o (by have := HGB.out; omega)); have SL_36 := Lib.hid (oxMv HFG.out o SL_35.out); have SN_36 := Lib.hid (sqMv HFG.out o SN_35.out); clear p o)
   |(go_at_call 51; (with_reducible refine (TD.out _ P36.out).mono ?_); rintro e w37 ⟨rfl, p, o⟩; have P37 := Lib.hid p; have O37 := Lib.hid (O36.out.trans o (fun n f => .inl (.inl f))); have KB37 := Lib.hid (KB36.out.only o (by have := HGB.out; omega)); have SL_37 := Lib.hid (oxMv HFG.out o SL_36.out); have SN_37 := Lib.hid (sqMv HFG.out o SN_36.out); clear p o)
   |(go_at_call 16; (with_reducible refine (BL2.out _ P37.out).mono ?_); rintro e w38 ⟨⟨v, rfl, sl⟩, p, o, ii⟩; obtain ⟨B, cB, rfl, sl⟩ := sl_shape sl; have P38 := Lib.hid p; have O38 := Lib.hid (O37.out.trans o (fun n f => .inl (.inl f))); have KB38 := Lib.hid (KB37.out.only o (by have := HGB.out; omega)); have SL_38 := Lib.hid (oxMv HFG.out o SL_37.out); have SN_38 := Lib.hid (sqMv HFG.out o SN_37.out); have RB_38 := Lib.hid (wideS O37.out.size sl); have IRB := Lib.hid ii; clear sl ii; clear p o; have SB_39 := Lib.hid (slOneB O38.out.size RB_38.out); have P39 := Lib.hid (P38.out.alloc (.cells #[.slice B p4.1.len cB] 23)); have O39 := Lib.hid (O38.out.alloc (.cells #[.slice B p4.1.len cB] 23)); have KB39 := Lib.hid (blk_al (.cells #[.slice B p4.1.len cB] 23) KB38.out); have SL_39 := Lib.hid (oxBel (Nat.le_refl _) (al_below w38 (.cells #[.slice B p4.1.len cB] 23)) SL_38.out); have SN_39 := Lib.hid (sqBel (Nat.le_refl _) (al_below w38 (.cells #[.slice B p4.1.len cB] 23)) SN_38.out); obtain ⟨⟨z0_39, z1_39, z2_39, z3_39, z4_39⟩, f0_39, f1_39, f2_39, f3_39, f4_39⟩ := KB39.out.five; have ob := only_cell (w38.alloc (.cells #[.slice B p4.1.len cB] 23)) b 4 (.slice (some ⟨w38.heap.size, 0, none⟩) 1 1); have P40 := Lib.hid (P39.out.only ob (fun i e => .inl (by have := HGB.out; omega))); have O40 := Lib.hid (O39.out.trans ob (fun n f => .inl (.inr f))); have KB40 := Lib.hid (blkF4 KB39.out (.slice (some ⟨w38.heap.size, 0, none⟩) 1 1)); have SL_40 := Lib.hid (oxMv HFB.out ob SL_39.out); have SN_40 := Lib.hid (sqMv HFB.out ob SN_39.out); have SB_40 := Lib.hid (slMv HFB.out ob SB_39.out); clear ob)
   |(go_at_call 51; (with_reducible refine (TN.out _ P40.out).mono ?_); rintro e w41 ⟨rfl, p, o⟩; have P41 := Lib.hid p; have O41 := Lib.hid (O40.out.trans o (fun n f => .inl (.inl f))); have KB41 := Lib.hid (KB40.out.only o (by have := HGB.out; omega)); have SL_41 := Lib.hid (oxMv HFG.out o SL_40.out); have SN_41 := Lib.hid (sqMv HFG.out o SN_40.out); have SB_41 := Lib.hid (slMv HFG.out o SB_40.out); clear p o))
  go_end0
  exact ⟨rfl, ⟨_, _, _, _, _, KB41.out, _, _, _, rfl, (sqOut SN_41.out), (SL_41.out.reads (fun k hk => hk)), SB_41.out⟩, P41.out, O41.out, (by have h1 := HNI.out; have h2 := HT1.out; have h3 := IRX.out; have h4 := HT2.out; have h5 := IQ2.out; have h6 := HTD.out; have h7 := IRB.out; have h8 := HTN.out; have h9 : (up st).i = st.i + 1 := rfl; show st.i ≤ s7.i; omega), (.inr (by have h1 := HNI.out; have h2 := HT1.out; have h3 := IRX.out; have h4 := HT2.out; have h5 := IQ2.out; have h6 := HTD.out; have h7 := IRB.out; have h8 := HTN.out; have h9 : (up st).i = st.i + 1 := rfl; show st.i < s7.i; omega))⟩
end
end Go.Proofs.Yteakhlnnepjhpaa
