/- Rows of names with scores: append as a step of a region that draws its order; parts of a row. -/
import Derived.Test.YtopnbfhkfagemaaDoorSkRf
import Derived.Test.YtopnbfhkfagemaaDoorTail
import Derived.Deep.RegionHeldLaw
namespace Go.Proofs.YtopnbfhkfagemaaDoor
open Go.RowKit
set_option linter.unusedVariables false
theorem SRow.keep {w w' : World} {base : Nat} {v : Value} {l : List SkM.E} (h : SRow w base v l) (hb : Below w.heap.size w w') : SRow w' base v l := by
  unfold SRow at h ⊢
  refine ⟨h.1, ?_⟩
  rcases h.2 with ⟨rfl, h0⟩ | ⟨g, cap, cur, rfl, hg, hbk, hc, h4, hs, ht⟩
  · exact .inl ⟨rfl, h0⟩
  · exact .inr ⟨g, cap, cur, rfl, hg, (hb.block g (Array.getElem?_eq_some_iff.1 hbk).1).trans hbk, hc, h4, hs, ht⟩
/-- Where a row lies that was made since. -/
def InNew (w w' : World) (v : Value) : Prop := ∀ a n c, v = .slice (some a) n c → w.heap.size ≤ a.block ∧ a.block < w'.heap.size
theorem SRow.fresh {w w' : World} {v : Value} {l : List SkM.E} (h : SRow w' w.heap.size v l) : InNew w w' v := by
  intro a n c e
  unfold SRow at h
  rcases h.2 with ⟨rfl, h0⟩ | ⟨g, cap, cur, rfl, hg, hbk, -⟩
  · cases e
  · injection e with e
    injection e with e
    subst e
    exact ⟨hg, (Array.getElem?_eq_some_iff.1 hbk).1⟩
theorem step_append_scores {w : World} {ops : Array Oper} {o : Oper} {a : Act} {K : Act → World → Prop} {Q : Exit → Act → World → Prop} {E : Prop} (hgd : o.guard = none) (s x : Operand)
    (ho : o.op = .call { callee := .builtin .append, args := #[s, x], argTypes := #[22, 22] })
    (w0 : World) (v : Value) (k : List SkM.E) (hs : a.eval s = v) (hown : SRow w w0.heap.size v k)
    (vx : Value) (l : List SkM.E) (hx : a.eval x = vx) (hr : SList w vx l)
    (hlen : k.length + l.length ≤ 100000) (hb : Below w0.heap.size w0 w)
    (h : ∀ v' w', SRow w' w0.heap.size v' (k ++ l) → Below w0.heap.size w0 w' → (w.heap.size ≤ w'.heap.size ∧ ∀ b, b < w.heap.size → v.ownBlock ≠ some b → w'.heap[b]? = w.heap[b]?) → K (a.put o.dst v') w') :
    if Region.wanted o (yielded ops a.tmps) = true then Oper.wp Tryd.prog o a w K Q else E := by
  have hw : Region.wanted o (yielded ops a.tmps) = true := by simp [Region.wanted, hgd]
  rw [if_pos hw]
  obtain ⟨i, hi, hz, h1, h2⟩ := info_parts infoS
  obtain ⟨A, c, rfl, hA, hc, hr⟩ := hr
  cases A with
  | none =>
    have e : l = [] := by
      cases l with
      | nil => rfl
      | cons c r => obtain ⟨p, e, _⟩ := hr 0 (by simp); cases e
    subst e
    obtain rfl := hA rfl
    have hrun := run_append_owned_none (P := Tryd.prog) (w := w) w0.heap.size 22 o.type 30 i 2 Tryd.underlying22 hi v k.length (scells k) hown
    unfold Oper.wp
    simp [execOp, ho, resolve, invoke, builtin, hs, hx, hrun, Result.andThen]
    exact h v w (by simpa using hown) hb ⟨Nat.le_refl _, fun _ _ _ => rfl⟩
  | some p =>
    obtain ⟨v', w', hrun, k2, k3, k4, k5⟩ := run_append_own_at (P := Tryd.prog) w w0.heap.size 22 o.type 30 i _ 2 24 Tryd.underlying22 hi hz h1 h2 rfl (by decide) v k.length (scells k) hown p l.length c (scells l) (scells_length l) (fun j u hu => by
      obtain ⟨i, hi, kk⟩ := scells_of hu
      obtain ⟨q, e, _, h1, h2⟩ := hr i hi
      cases e
      rcases kk with ⟨rfl, rfl⟩ | ⟨rfl, rfl⟩
      · exact h1
      · rw [add_add] at h2; exact h2) (scells_one l) (by unfold maxLen; omega) (by omega) hb.size
    unfold Oper.wp execOp
    simp only [ho, resolve, invoke, builtin, Sem.run_bind, Sem.run_pure, Result.andThen_ok, List.map_toArray, List.map_cons, List.map_nil, hs, hx, hrun]
    exact h v' w' (by unfold SRow; rw [scells_append, List.length_append]; exact k2) (hown.grown hb k3) ⟨k3.size, fun b hb hne => k3.block b hb fun e => hne e.symm⟩
theorem SList.same {w w' : World} {a : Addr} {n c : Nat} {l : List SkM.E} (h : SList w (.slice (some a) n c) l) (k : w'.heap[a.block]? = w.heap[a.block]?) (hs : w.heap.size ≤ w'.heap.size) : SList w' (.slice (some a) n c) l := by
  obtain ⟨A, c', e, hA, hc, hr⟩ := h
  refine ⟨A, c', e, hA, hc, fun i hi => ?_⟩
  obtain ⟨p, ep, hp, h1, h2⟩ := hr i hi
  injection e with e1 e2 e3
  have ea : p = a := by rw [ep] at e1; injection e1 with e1; exact e1.symm
  subst ea
  exact ⟨p, ep, Nat.lt_of_lt_of_le hp hs, (World.cell?_of_block (a := p.add (i * 2)) (by rw [add_block]; exact k)).trans h1, (World.cell?_of_block (a := (p.add (i * 2)).add 1) (by rw [add_block, add_block]; exact k)).trans h2⟩
theorem srow_new (w : World) (base : Nat) (h : base ≤ w.heap.size) : SRow (w.alloc (.cells #[] 30)) base (.slice (some ⟨w.heap.size, 0, none⟩) 0 0) [] :=
  ⟨rfl, .inr ⟨w.heap.size, 0, #[], rfl, h, by show (w.heap.push _)[w.heap.size]? = _; simp, Nat.le_refl _, Nat.zero_le _, rfl, rfl⟩⟩
theorem SList.front {w : World} {a : Addr} {n c : Nat} {l : List SkM.E} (h : SList w (.slice (some a) n c) l) (k : Nat) (hk : k ≤ l.length) : SList w (.slice (some a) k c) (l.take k) := by
  obtain ⟨A, c', e, hA, hc, hr⟩ := h
  injection e with e1 e2 e3
  subst e1; subst e3
  have lt : (l.take k).length = k := by rw [List.length_take]; omega
  refine ⟨some a, c, by rw [lt], hA, by omega, fun i hi => ?_⟩
  obtain ⟨p, ep, hp, h1, h2⟩ := hr i (by omega)
  exact ⟨p, ep, hp, by rw [List.getElem_take]; exact h1, by rw [List.getElem_take]; exact h2⟩
theorem SList.behind {w : World} {a : Addr} {n c : Nat} {l : List SkM.E} (h : SList w (.slice (some a) n c) l) (k : Nat) (hk : k ≤ l.length) : SList w (.slice (if c = k then some a else some (a.add (k * 2))) (n - k) (c - k)) (l.drop k) := by
  obtain ⟨A, c', e, hA, hc, hr⟩ := h
  injection e with e1 e2 e3
  subst e1; subst e3; subst e2
  refine ⟨_, _, by rw [List.length_drop], (fun e => by split at e <;> cases e), by rw [List.length_drop]; omega, fun i hi => ?_⟩
  rw [List.length_drop] at hi
  have hne : c ≠ k := by omega
  obtain ⟨p, ep, hp, h1, h2⟩ := hr (k + i) (by omega)
  injection ep with ep
  subst ep
  have e : (a.add (k * 2)).add (i * 2) = a.add ((k + i) * 2) := by rw [add_add]; congr 1; omega
  refine ⟨a.add (k * 2), by rw [if_neg hne], by rw [add_block]; exact hp, ?_, ?_⟩
  · rw [e, List.getElem_drop]; exact h1
  · rw [e, List.getElem_drop]; exact h2
theorem del_cut {l : List SkM.E} {k : Nat} (hk : k < l.length) (hn : (l.map Prod.fst).Nodup) : SkM.del l l[k].1 = l.take k ++ l.drop (k + 1) := by
  have e : l = l.take k ++ l[k] :: l.drop (k + 1) := by
    have := List.take_append_drop k l
    rw [List.drop_eq_getElem_cons hk] at this
    exact this.symm
  obtain ⟨y, hy⟩ : ∃ y, l[k] = y := ⟨_, rfl⟩
  rw [hy] at e ⊢
  rw [e] at hn
  have := SkM.del_mid hn
  rw [← e] at this
  exact this
end Go.Proofs.YtopnbfhkfagemaaDoor
