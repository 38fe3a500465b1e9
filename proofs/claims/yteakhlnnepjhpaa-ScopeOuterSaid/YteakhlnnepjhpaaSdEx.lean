/- The document's own Outer: names put behind names. -/
import Derived.Test.YteakhlnnepjhpaaSdCx
import Derived.Deep.RegionHeld3
import Derived.Deep.CutRange
namespace Go.Proofs.Yteakhlnnepjhpaa
open Go.RowKit PrM
set_option linter.unusedVariables false
set_option linter.unusedSimpArgs false
theorem append_none (w : World) (t e ty : TypeId) (i : TypeInfo) (ht : Try.prog.underlying t = some (.slice e)) (hi : Try.prog.info? e = some i) (v : Value) (a : Addr) (hv : ∃ A n c, v = .slice A n c ∧ n ≤ c) :
  (Builtin.append_ #[t, t] ty #[v, .slice none 0 0]).run Try.prog w = (Builtin.append_ #[t, t] ty #[v, .slice (some a) 0 0]).run Try.prog w := by
 obtain ⟨A, n, c, rfl, hn⟩ := hv
 simp [Builtin.append_, run_underlying ht, sizeOf, typeInfo, hi, Builtin.lenOf, Builtin.firstCells, loadCells, loadCellsFrom, hn]
/-- append of names to names of one's own. -/
theorem run_append_names (w : World) (ty : TypeId) (B : Nat) (v : Value) (l : List ByteArray) (hown : w.ownsRow B 9 1 v l.length (l.map Value.string)) (u : Value) (xs : List ByteArray) (hu : Txs w u xs) (h0 : ∀ c, u = .slice none 0 c → c = 0) (hl : l.length + xs.length ≤ 1000000000000) (hb : B ≤ w.heap.size) :
  ∃ v' w', (Builtin.append_ #[33, 33] ty #[v, u]).run Try.prog w = .ok v' w' ∧ w'.ownsRow B 9 1 v' (l ++ xs).length ((l ++ xs).map Value.string) ∧ w.grownBy w' v.ownBlock ∧ (v'.ownBlock = v.ownBlock ∨ v'.ownBlock = some w.heap.size) := by
 obtain ⟨i, hi, hz, k1, k2⟩ := info_parts infoT9
 obtain ⟨A, c, rfl, hc, hx⟩ := hu
 rw [List.length_append, List.map_append]
 cases A with
 | some p =>
  obtain ⟨v', w', hrun, h2, h3, _, h5⟩ := run_append_own_at (P := Try.prog) w B 33 ty 9 i _ 1 16 Try.underlying33 hi hz k1 k2 rfl (by decide) v l.length (l.map Value.string) hown p xs.length c (xs.map Value.string) (by simp) (fun j y hj => by
   rw [List.getElem?_map] at hj
   obtain ⟨b, hb, rfl⟩ := Option.map_eq_some_iff.1 hj
   obtain ⟨hlt, e⟩ := List.getElem?_eq_some_iff.1 hb
   obtain ⟨q, e2, k⟩ := hx j hlt
   obtain rfl := Option.some.inj e2
   rw [k, e]) (fun u hu => by
   obtain ⟨b, _, rfl⟩ := List.mem_map.1 hu
   rfl) (by unfold maxLen; omega) (by omega) hb
  exact ⟨v', w', hrun, h2, h3, h5⟩
 | none =>
  have e0 : xs = [] := by
   cases xs with
   | nil => rfl
   | cons a r =>
    obtain ⟨q, e, -⟩ := hx 0 (Nat.succ_pos _)
    cases e
  subst e0
  obtain rfl := h0 c rfl
  obtain ⟨v', w', hrun, h2, h3, _, h5⟩ := run_append_own_at (P := Try.prog) w B 33 ty 9 i _ 1 16 Try.underlying33 hi hz k1 k2 rfl (by decide) v l.length (l.map Value.string) hown ⟨0, 0, none⟩ 0 0 [] rfl (fun j y hj => by simp at hj) (fun u hu => by simp at hu) (by unfold maxLen; omega) (by omega) hb
  refine ⟨v', w', ?_, h2, h3, h5⟩
  have hv : ∃ A n c, v = .slice A n c ∧ n ≤ c := by
   rcases hown.2 with ⟨rfl, -⟩ | ⟨g, cap, cur, rfl, -, -, hn, -⟩
   ·exact ⟨_, _, _, rfl, Nat.le_refl _⟩
   ·exact ⟨_, _, _, rfl, hn⟩
  exact (append_none w _ _ ty i Try.underlying33 hi v ⟨0, 0, none⟩ hv).trans hrun
theorem wpList_append_names {w : World} {ops : Array Oper} {rest : List Oper} {o : Oper} {a : Act} {Q : Exit → Act → World → Prop} (hgd : o.guard = none) (s x : Operand)
  (ho : o.op = .call { callee := .builtin .append, args := #[s, x], argTypes := #[33, 33] })
  (B : Nat) (v : Value) (l : List ByteArray) (hs : a.eval s = v) (hown : w.ownsRow B 9 1 v l.length (l.map Value.string)) (u : Value) (xs : List ByteArray) (hx : a.eval x = u) (hu : Txs w u xs) (h0 : ∀ c, u = .slice none 0 c → c = 0) (hl : l.length + xs.length ≤ 1000000000000) (hb : B ≤ w.heap.size)
  (h : ∀ v' w', w'.ownsRow B 9 1 v' (l ++ xs).length ((l ++ xs).map Value.string) → w.grownBy w' v.ownBlock → (v'.ownBlock = v.ownBlock ∨ v'.ownBlock = some w.heap.size) → wpList Try.prog ops Q rest (a.put o.dst v') w') :
  wpList Try.prog ops Q (o :: rest) a w := by
 refine wpList_plain hgd fun K hK => ?_
 obtain ⟨v', w', hr, h2, h3, h5⟩ := run_append_names w o.type B v l hown u xs hu h0 hl hb
 unfold Oper.wp execOp
 simp only [ho, resolve, invoke, builtin, Sem.run_bind, Sem.run_pure, Result.andThen_ok, List.map_toArray, List.map_cons, List.map_nil, hs, hx, hr]
 exact hK _ _ (h v' w' h2 h3 h5)
/-- .. as a step of a drawn region. -/
theorem step_append_names {w : World} {ops : Array Oper} {o : Oper} {a : Act} {K : Act → World → Prop} {Q : Exit → Act → World → Prop} {E : Prop} (hgd : o.guard = none) (s x : Operand)
  (ho : o.op = .call { callee := .builtin .append, args := #[s, x], argTypes := #[33, 33] })
  (B : Nat) (v : Value) (l : List ByteArray) (hs : a.eval s = v) (hown : w.ownsRow B 9 1 v l.length (l.map Value.string)) (u : Value) (xs : List ByteArray) (hx : a.eval x = u) (hu : Txs w u xs) (h0 : ∀ c, u = .slice none 0 c → c = 0) (hl : l.length + xs.length ≤ 1000000000000) (hb : B ≤ w.heap.size)
  (h : ∀ v' w', w'.ownsRow B 9 1 v' (l ++ xs).length ((l ++ xs).map Value.string) → w.grownBy w' v.ownBlock → (v'.ownBlock = v.ownBlock ∨ v'.ownBlock = some w.heap.size) → K (a.put o.dst v') w') :
  if Region.wanted o (yielded ops a.tmps) = true then Oper.wp Try.prog o a w K Q else E := by
 have hw : Region.wanted o (yielded ops a.tmps) = true := by simp [Region.wanted, hgd]
 rw [if_pos hw]
 obtain ⟨v', w', hr, h2, h3, h5⟩ := run_append_names w o.type B v l hown u xs hu h0 hl hb
 unfold Oper.wp
 simp [execOp, ho, resolve, invoke, builtin, hs, hx, hr, Result.andThen]
 exact h v' w' (by simpa using h2) h3 h5
theorem blkO0 {W : World} {b : Nat} {v0 v1 : Value} {t : TypeId} (h : Blk W b #[v0, v1] t) (u : Value) : Blk (W.setCell ⟨b, 0, none⟩ u) b #[u, v1] t := by
 have h : W.heap[b]? = _ := h
 show _ = _
 simp [World.setCell, Array.getElem?_modify, h]
/-- Names more. -/
theorem WO.added {w w1 w2 w3 : World} {B g : Nat} {vn vo vn' : Value} {st : ScM.Sc} {ps : List ByteArray} (h : WO w B g vn vo st) (b1 : Below w.heap.size w w1) (gr : w1.grownBy w2 vn.ownBlock) (o : Only (fun b => b = g) w2 w3)
  (own : w2.ownsRow B 9 1 vn' (st.names ++ ps).length ((st.names ++ ps).map .string)) (hv : vn'.ownBlock = vn.ownBlock ∨ vn'.ownBlock = some w1.heap.size) (b : Blk w3 g #[vn', vo] 72) (hm : st.ct + ps.length ≤ 1000000000000) :
  WO w3 B g vn' vo (ScM.declare ps st) ∧ Ko B w w3 := by
 have z1 := b1.size
 have z2 := gr.size
 have s2 : ∀ q, q < w.heap.size → vn.ownBlock ≠ some q → w2.heap[q]? = w.heap[q]? := fun q l m => (gr.block q (by omega) (fun e => m e.symm)).trans (b1.block q l)
 have s3 : ∀ q, q < w.heap.size → vn.ownBlock ≠ some q → q ≠ g → w3.heap[q]? = w.heap[q]? := fun q l m k => (o.block q (by omega) k).trans (s2 q l m)
 have hg2 : Blk w2 g #[vn, vo] 72 := (s2 g h.blk.lt (own_blk h.names h.blk (by decide))).trans h.blk
 refine ⟨⟨b, ?_, ?_, ?_, h.hg, ?_, Nat.le_trans h.olen (Nat.le_add_right _ _), hm⟩, ⟨?_, fun q cs ty k x y => ?_⟩⟩
 ·exact own_same own fun q e => o.block q (own_lt own q e).2 fun x => own_blk own hg2 (by decide) (x ▸ e)
 ·exact own_same h.outer fun q e => s3 q (own_lt h.outer q e).2 (fun x => h.apart q x e) fun x => own_blk h.outer h.blk (by decide) (x ▸ e)
 ·intro q e x
  rcases hv with k | k
  ·rw [k] at e; exact h.apart q e x
  ·rw [k] at e
   have := (own_lt h.outer q x).2
   have := Option.some.inj e
   omega
 ·show (st.names ++ ps).length ≤ st.ct + ps.length
  rw [List.length_append]
  have := h.nlen
  omega
 ·have hb := h.base
  exact (b1.mono hb).trans (((Below.refl B w1).grown gr (by omega) (fun k e => (own_lt h.names k e).1)).trans (o.below (fun n e => by subst e; exact h.hg) (by omega)))
 ·refine (s3 q k.lt (fun e => own_blk h.names k (fun e2 => y e2.symm) e) fun e => ?_).trans k
  subst e
  have a : w.heap[q]? = _ := h.blk
  have k : w.heap[q]? = _ := k
  rw [a] at k
  injection k with k
  injection k with _ k
  exact x k.symm
/-- Fewer again: the row's beginning. -/
theorem own_front {w : World} {B n : Nat} {A : Option Addr} {c : Nat} {l ds : List ByteArray} (h : w.ownsRow B 9 1 (.slice A n c) n ((l ++ ds).map .string)) (hl : A = none → l = []) : w.ownsRow B 9 1 (.slice A l.length c) l.length (l.map .string) := by
 have h1 := h.1
 rw [List.length_map, List.length_append, Nat.mul_one] at h1
 rcases h.2 with ⟨e, h0⟩ | ⟨p, cap, cur, e, hp, hb, hn, hc, hs, ht⟩
 ·injection e with e1 e2 e3
  subst e1 e3
  obtain rfl := hl rfl
  exact World.ownsRow_nil w B _ _
 ·injection e with e1 e2 e3
  subst e1 e3
  refine ⟨by simp, .inr ⟨p, _, cur, rfl, hp, hb, by omega, hc, hs, ?_⟩⟩
  have e : (l ++ ds).map Value.string = l.map Value.string ++ ds.map Value.string := List.map_append
  rw [e] at ht
  have e2 : (l.map Value.string ++ ds.map Value.string).take (l.length * 1) = l.map Value.string := by
   rw [Nat.mul_one]
   have : (l.map Value.string).length = l.length := List.length_map ..
   rw [← this]
   exact List.take_left
  rw [← e2, ← ht, List.take_take, Nat.min_eq_left (by omega)]
end Go.Proofs.Yteakhlnnepjhpaa
