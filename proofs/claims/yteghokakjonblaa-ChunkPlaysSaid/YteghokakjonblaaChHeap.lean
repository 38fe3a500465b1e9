/- Slices in memory with room of their own; what stores leave of them. -/
import Derived.Test.YteghokakjonblaaTurn
import Derived.Shelf.Spec.SlicesInsertGrow
namespace Go.Proofs.Yteghokakjonblaa
open Go.RowKit Go.Lib
set_option linter.unusedVariables false
/-- The cells of a slice's room. -/
def Rng (b off cap : Nat) (a : Addr) : Prop := a.block = b ∧ off ≤ a.off ∧ a.off < off + cap
structure Sl (w : World) (b off cap : Nat) (l : List Value) : Prop where
  lt : b < w.heap.size
  len : l.length ≤ cap
  big : cap ≤ 9223372036854775807
  one : ∀ v ∈ l, v.oneCell' = true
  get : ∀ j v, l[j]? = some v → w.cell? ⟨b, off + j, none⟩ = some v
  is : ∀ j, j < cap → (w.cell? ⟨b, off + j, none⟩).isSome = true
  free : ∀ j, w.frozen? ⟨b, j, none⟩ = false
section
variable {D : Addr → Prop} {w w' : World} {b off cap : Nat} {l : List Value}
theorem Sl.turn (h : Sl w b off cap l) (t : Turn D w w') (hd : ∀ a, Rng b off cap a → ¬ D a) : Sl w' b off cap l :=
  have k : ∀ j, j < cap → w'.cell? ⟨b, off + j, none⟩ = w.cell? ⟨b, off + j, none⟩ := fun j hj => t.cell _ h.lt (hd _ ⟨rfl, by show off ≤ off + j; omega, by show off + j < off + cap; omega⟩)
  ⟨Nat.lt_of_lt_of_le h.lt t.size, h.len, h.big, h.one, fun j v e => by
    have : j < l.length := (List.getElem?_eq_some_iff.1 e).1
    rw [k j (by have := h.len; omega)]; exact h.get j v e, fun j hj => by rw [k j hj]; exact h.is j hj, fun j => by rw [t.frozen _ h.lt]; exact h.free j⟩
theorem Sl.below (h : Sl w b off cap l) (t : Below w.heap.size w w') : Sl w' b off cap l := h.turn (D := fun _ => False) (Turn.of_below t) fun _ _ e => e
theorem Sl.drew (h : Sl w b off cap l) : Sl w.drew b off cap l := ⟨h.lt, h.len, h.big, h.one, h.get, h.is, h.free⟩
theorem Sl.undrew (h : Sl w.drew b off cap l) : Sl w b off cap l := ⟨h.lt, h.len, h.big, h.one, h.get, h.is, h.free⟩
theorem Turn.drew (h : Turn D w w') : Turn D w w'.drew := ⟨h.os, h.tape, h.output, h.size, h.cell, h.frozen, h.block⟩
theorem Turn.cells (b : Nat) : ∀ (vs : List Value) (o : Nat) (w : World), (∀ j, j < vs.length → D ⟨b, o + j, none⟩) → Turn D w (w.setCells b o vs)
  | [], _, w, _ => Turn.refl D w
  | v :: r, o, w, h => by
    rw [World.setCells]
    refine (Turn.set w (h 0 (by simp)) v).trans (Turn.cells b r (o + 1) _ fun j hj => ?_) (fun a e => .inl e)
    have := h (j + 1) (by simpa using hj)
    rwa [show o + 1 + j = o + (j + 1) by omega]
/-- Stores within the room. -/
theorem Sl.lay (h : Sl w b off cap l) (o : Nat) (vs l' : List Value) (h1 : ∀ v ∈ vs, v.oneCell' = true) (hc : o + vs.length ≤ cap) (hl : l'.length ≤ cap)
    (hg : ∀ j v, l'[j]? = some v → (o ≤ j ∧ vs[j - o]? = some v) ∨ ((j < o ∨ o + vs.length ≤ j) ∧ l[j]? = some v)) : Sl (w.setCells b (off + o) vs) b off cap l' := by
  have hs : ∀ j, j < vs.length → (w.cell? ⟨b, off + o + j, none⟩).isSome = true := fun j hj => by rw [Nat.add_assoc]; exact h.is _ (by omega)
  have t : Turn (Rng b off cap) w (w.setCells b (off + o) vs) := Turn.cells b vs (off + o) w fun j hj => ⟨rfl, by show off ≤ off + o + j; omega, by show off + o + j < off + cap; omega⟩
  refine ⟨Nat.lt_of_lt_of_le h.lt t.size, hl, h.big, fun v hv => ?_, fun j v e => ?_, fun j hj => ?_, fun j => by rw [t.frozen _ h.lt]; exact h.free j⟩
  · obtain ⟨j, hj, e⟩ := List.getElem_of_mem hv
    rcases hg j v (by rw [List.getElem?_eq_getElem hj, e]) with ⟨_, k⟩ | ⟨_, k⟩
    · exact h1 v (List.mem_of_getElem? k)
    · exact h.one v (List.mem_of_getElem? k)
  · rcases hg j v e with ⟨a, k⟩ | ⟨a, k⟩
    · obtain ⟨hj, rfl⟩ := List.getElem?_eq_some_iff.1 k
      have := World.cell?_setCells_in b vs (off + o) w hs (j - o) hj
      rwa [show off + o + (j - o) = off + j by omega] at this
    · rw [World.cell?_setCells_out b vs (off + o) w _ (fun _ _ => by show off + j < off + o ∨ off + o + vs.length ≤ off + j; omega)]
      exact h.get j v k
  · exact isSome_setCells b vs (off + o) w hs _ (h.is j hj)
theorem Turn.lay (b off cap o : Nat) (vs : List Value) (w : World) (hc : o + vs.length ≤ cap) : Turn (Rng b off cap) w (w.setCells b (off + o) vs) := Turn.cells b vs (off + o) w fun j hj => ⟨rfl, by show off ≤ off + o + j; omega, by show off + o + j < off + cap; omega⟩
/-- A new row. -/
theorem Sl.new (w : World) (C : Array Value) (t : TypeId) (l : List Value) (h1 : ∀ v ∈ l, v.oneCell' = true) (hb : C.size ≤ 9223372036854775807) (hl : l.length ≤ C.size) (hg : ∀ (j : Nat) (v : Value), l[j]? = some v → C[j]? = some v) : Sl (w.alloc (.cells C t)) w.heap.size 0 C.size l :=
  ⟨by show w.heap.size < (w.heap.push _).size; simp, hl, hb, h1, fun j v e => by rw [Nat.zero_add, World.cell?_alloc_new]; exact hg j v e, fun j hj => by rw [Nat.zero_add, World.cell?_alloc_new, Array.getElem?_eq_getElem hj]; rfl, fun j => World.frozen?_alloc_new w C t j⟩
theorem shape_of (h : Sl w b off cap l) (hc : 0 < cap) : ∃ t k, w.shape? b = some (t, k) ∧ k ≠ 0 := by
  have := h.is 0 hc
  unfold World.cell? at this
  unfold World.shape?
  split at this
  · rename_i c t f e
    have e' : w.heap[b]? = some (.cells c t f) := e
    refine ⟨t, c.size, by rw [e'], fun z => ?_⟩
    have e0 : c = #[] := Array.eq_empty_of_size_eq_zero z
    subst e0
    simp at this
  · simp at this
end
/-- What slices.Insert of one element does: in the room that is there, or in a new row. -/
def Ins (w : World) (b off cap : Nat) (l : List Value) (i : Nat) (x : Value) (e : Ending) (w' : World) : Prop :=
  ∃ b' off' cap', e = .returned (.slice (some ⟨b', off', none⟩) (l.length + 1) cap') ∧ Sl w' b' off' cap' (l.take i ++ x :: l.drop i) ∧
    ((l.length < cap ∧ b' = b ∧ off' = off ∧ cap' = cap ∧ Turn (Rng b off cap) w w') ∨ (l.length = cap ∧ w.heap.size ≤ b' ∧ off' = 0 ∧ Below w.heap.size w w'))
/-- What is inserted lies in a block of its own. -/
structure Src1 (w : World) (vb : Nat) (x : Value) : Prop where
  cell : w.cell? ⟨vb, 0, none⟩ = some x
  shape : ∃ t, w.shape? vb = some (t, 1)
  free : ∀ j, w.frozen? ⟨vb, j, none⟩ = false
  one : x.oneCell' = true
theorem Src1.new (w : World) (x : Value) (t : TypeId) (h : x.oneCell' = true) : Src1 (w.alloc (.cells #[x] t)) w.heap.size x :=
  ⟨by rw [World.cell?_alloc_new]; rfl, ⟨t, by unfold World.shape?; show (match (w.heap.push _)[w.heap.size]? with | some (.cells c e _) => some (e, c.size) | _ => none) = _; simp⟩, fun j => World.frozen?_alloc_new w _ t j, h⟩
end Go.Proofs.Yteghokakjonblaa
