/- Rows of names with scores: cells, rows of the own, append. -/
import Derived.Test.YtopnbfhkfagemaaDoorSkCmp
import Derived.OwnWalk
import Derived.Maps.AppendAt
import Derived.Laws.AppendOwnNone
namespace Go.Proofs.YtopnbfhkfagemaaDoor
open Go.RowKit
set_option linter.unusedVariables false
/-- Cells of names with scores, one behind the other. -/
def scells : List SkM.E → List Value
  | [] => []
  | a :: r => .string ⟨a.1.toArray⟩ :: .int .i64 a.2 :: scells r
theorem scells_length : ∀ l : List SkM.E, (scells l).length = l.length * 2
  | [] => rfl
  | a :: r => by simp [scells, scells_length r]; omega
theorem scells_append : ∀ a b : List SkM.E, scells (a ++ b) = scells a ++ scells b
  | [], b => rfl
  | a :: r, b => by simp [scells, scells_append r b]
theorem scells_one : ∀ (l : List SkM.E), ∀ u ∈ scells l, u.oneCell' = true
  | [], u, h => by cases h
  | a :: r, u, h => by
    simp only [scells, List.mem_cons] at h
    rcases h with rfl | rfl | h
    · rfl
    · rfl
    · exact scells_one r u h
theorem scells_at : ∀ (l : List SkM.E) (i : Nat) (h : i < l.length), (scells l)[i * 2]? = some (.string ⟨l[i].1.toArray⟩) ∧ (scells l)[i * 2 + 1]? = some (.int .i64 l[i].2)
  | [], i, h => by cases h
  | a :: r, 0, h => by simp [scells]
  | a :: r, i + 1, h => by
    obtain ⟨x, y⟩ := scells_at r i (by simpa using h)
    have e : (i + 1) * 2 = i * 2 + 2 := by omega
    rw [e]
    simp only [scells, List.getElem?_cons_succ, List.getElem_cons_succ]
    exact ⟨x, y⟩
/-- What stands at a place of the cells. -/
theorem scells_of {l : List SkM.E} {j : Nat} {u : Value} (h : (scells l)[j]? = some u) : ∃ i, ∃ hi : i < l.length, (j = i * 2 ∧ u = .string ⟨l[i].1.toArray⟩) ∨ (j = i * 2 + 1 ∧ u = .int .i64 l[i].2) := by
  have hj : j < (scells l).length := (List.getElem?_eq_some_iff.1 h).1
  rw [scells_length] at hj
  have hi : j / 2 < l.length := by omega
  obtain ⟨x, y⟩ := scells_at l (j / 2) hi
  rcases Nat.mod_two_eq_zero_or_one j with m | m
  · have e : j = j / 2 * 2 := by omega
    rw [← e, h] at x
    injection x with x
    exact ⟨j / 2, hi, .inl ⟨e, x⟩⟩
  · have e : j = j / 2 * 2 + 1 := by omega
    rw [← e, h] at y
    injection y with y
    exact ⟨j / 2, hi, .inr ⟨e, y⟩⟩
/-- A row of the call's own that reads as l. -/
def SRow (w : World) (base : Nat) (v : Value) (l : List SkM.E) : Prop := w.ownsRow base 30 2 v l.length (scells l)
theorem SRow.list {w : World} {base : Nat} {v : Value} {l : List SkM.E} (h : SRow w base v l) : SList w v l := by
  have h := h
  unfold SRow at h
  rcases h.2 with ⟨rfl, h0⟩ | ⟨g, cap, cur, rfl, hg, hb, hc, _, hs, ht⟩
  · have e : l = [] := List.eq_nil_of_length_eq_zero h0
    subst e
    exact ⟨none, 0, rfl, fun _ => rfl, Nat.le_refl _, fun i hi => absurd hi (by simp)⟩
  · refine ⟨_, cap, rfl, (fun e => nomatch e), hc, fun i hi => ?_⟩
    have hlt : g < w.heap.size := (Array.getElem?_eq_some_iff.1 hb).1
    obtain ⟨x, y⟩ := scells_at l i hi
    refine ⟨_, rfl, hlt, ?_, ?_⟩
    · exact h.cells (g := g) rfl (i * 2) _ x
    · rw [add_add]
      exact h.cells (g := g) rfl (i * 2 + 1) _ y
/-- append of a row of names with scores, nil let in, onto a row of the call's own. -/
theorem wpList_append_scores {w : World} {ops : Array Oper} {rest : List Oper} {o : Oper} {a : Act} {Q : Exit → Act → World → Prop} (hgd : o.guard = none) (s x : Operand)
    (ho : o.op = .call { callee := .builtin .append, args := #[s, x], argTypes := #[22, 22] })
    (base : Nat) (v : Value) (k : List SkM.E) (hs : a.eval s = v) (hown : SRow w base v k)
    (vx : Value) (l : List SkM.E) (hx : a.eval x = vx) (hr : SList w vx l)
    (hlen : k.length + l.length ≤ 100000) (hbase : base ≤ w.heap.size)
    (h : ∀ v' w', SRow w' base v' (k ++ l) → w.grownBy w' v.ownBlock → (v'.ownBlock = v.ownBlock ∨ v'.ownBlock = some w.heap.size) → wpList Tryd.prog ops Q rest (a.put o.dst v') w') :
    wpList Tryd.prog ops Q (o :: rest) a w := by
  obtain ⟨i, hi, hz, h1, h2⟩ := info_parts infoS
  obtain ⟨A, c, rfl, hA, hc, hr⟩ := hr
  cases A with
  | none =>
    have e : l = [] := by
      cases l with
      | nil => rfl
      | cons c r => obtain ⟨p, e, _⟩ := hr 0 (by simp); cases e
    subst e
    obtain rfl := hA rfl
    refine wpList_append_own_none hgd s x 22 ho base 30 i 2 Tryd.underlying22 hi v k.length (scells k) hs hown hx ?_
    exact h v w (by simpa using hown) (World.grownBy.refl w _) (.inl rfl)
  | some p =>
    refine wpList_append_own_at w hgd s x 22 ho base 30 i _ 2 24 Tryd.underlying22 hi hz h1 h2 rfl (by decide) v k.length (scells k) hs hown p l.length c (scells l) hx (scells_length l) (fun j u hu => ?_) (scells_one l) (by unfold maxLen; omega) (by omega) hbase fun v' w' g1 g2 _ g4 => h v' w' (by unfold SRow; rw [scells_append, List.length_append]; exact g1) g2 g4
    obtain ⟨i, hi, k⟩ := scells_of hu
    obtain ⟨q, e, _, h1, h2⟩ := hr i hi
    cases e
    rcases k with ⟨rfl, rfl⟩ | ⟨rfl, rfl⟩
    · exact h1
    · rw [add_add] at h2; exact h2
/-- A guarded operation that is wanted, as one without a guard. -/
theorem wpList_free {P : Program} {ops : Array Oper} {Q : Exit → Act → World → Prop} {a : Act} {w : World} {rest : List Oper} {o : Oper} (hw : Region.wanted o (yielded ops a.tmps) = true)
    (h : wpList P ops Q ({ o with guard := none } :: rest) a w) : wpList P ops Q (o :: rest) a w := by
  unfold wpList at h ⊢
  rw [if_pos hw]
  have : Region.wanted { o with guard := none } (yielded ops a.tmps) = true := rfl
  rw [if_pos this] at h
  exact h
theorem srow_none (w : World) (t : TypeId) (ht : t = 30) : SRow (w.alloc (.cells #[] t)) w.heap.size (.slice (some ⟨w.heap.size, 0, none⟩) 0 0) [] := by
  subst ht
  exact ⟨rfl, .inr ⟨w.heap.size, 0, #[], rfl, Nat.le_refl _, by show (w.heap.push _)[w.heap.size]? = _; simp, Nat.le_refl _, Nat.zero_le _, rfl, rfl⟩⟩
theorem SRow.shows {w : World} {base : Nat} {v : Value} {l : List SkM.E} (h : SRow w base v l) : ∃ A c, v = .slice A l.length c := by
  unfold SRow at h
  rcases h.2 with ⟨rfl, h0⟩ | ⟨g, cap, cur, rfl, _⟩
  · exact ⟨none, 0, by rw [List.eq_nil_of_length_eq_zero h0]; rfl⟩
  · exact ⟨_, _, rfl⟩
theorem SRow.grown {w w' : World} {w0 : World} {v : Value} {k : List SkM.E} (h : SRow w w0.heap.size v k) (hb : Below w0.heap.size w0 w) (hg : w.grownBy w' v.ownBlock) : Below w0.heap.size w0 w' := hb.grown hg hb.size fun j hj => (h.lt j hj).1
end Go.Proofs.YtopnbfhkfagemaaDoor
