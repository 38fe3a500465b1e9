/- The map of scores that package skip keeps: what stands in it, name by name; looked up, stored into, struck out of. -/
import Derived.Test.YtopnbfhkfagemaaDoorSkM
import Derived.Test.YtopnbfhkfagemaaDoorFrame
import Derived.Maps.OwnSet
namespace Go.Proofs.YtopnbfhkfagemaaDoor
open Go.RowKit Go.Maps
set_option linter.unusedVariables false

theorem skey : Keyed Tryd.prog 9 := string_keyed Tryd.underlying9
theorem tmap : Tryd.prog.underlying 58 = some (.map 9 2) := Tryd.underlying58
/-- An element as it stands. -/
def heldR (v : Value) : Option (DataW Value × List MemPlace) := some (.held v, [])
def zeroI : Value := .int .i64 0
theorem zeroInt (w : World) : (zeroValue 2).run Tryd.prog w = .ok zeroI w := by kernel_rfl
/-- A map in memory, nil let in. -/
def MapAt (w : World) : Option Nat → DataW Value → Prop
  | none, D => D = .map []
  | some b, D => w.ownsMap Tryd.prog 9 heldR b (size D) D
/-- The element at a key. -/
def valAt (D : DataW Value) (s : List UInt8) : Value := match D.atKey (.string s) (.held zeroI) with | .held v => v | _ => zeroI
theorem keyLit (s : List UInt8) : WideAt.IsKeyLit (.string s) := by simp [WideAt.IsKeyLit]
theorem skey_of (s : ByteArray) (hs : s.size ≤ maxLen) : keyOf Tryd.prog 9 (.string s) = some (.string s.data.toList) := WideMaps.keyOf_string_mk Tryd.underlying9 hs
theorem tight {w : World} {b n : Nat} {D : DataW Value} (h : w.ownsMap Tryd.prog 9 heldR b n D) : MapAt w (some b) D := by
  obtain ⟨es, clock, hb, F, _, rfl⟩ := h
  exact ⟨es, clock, hb, F, by simp [Maps.size, length_sorted], rfl⟩
theorem MapAt.tidy {w : World} {mo : Option Nat} {D : DataW Value} (h : MapAt w mo D) : Tidy D := by
  cases mo with
  | none => rw [show D = .map [] from h]; exact tidy_empty
  | some b => exact World.ownsMap.tidy h skey
theorem MapAt.same {w w' : World} {mo : Option Nat} {D : DataW Value} (h : MapAt w mo D) (k : ∀ b, mo = some b → w'.heap[b]? = w.heap[b]?) : MapAt w' mo D := by
  cases mo with
  | none => exact h
  | some b =>
    obtain ⟨es, clock, hb, F, hs, hD⟩ := h
    exact ⟨es, clock, (k b rfl).trans hb, F, hs, hD⟩
theorem MapAt.lt {w : World} {b : Nat} {D : DataW Value} (h : MapAt w (some b) D) : b < w.heap.size := World.ownsMap.lt h
theorem look_ok {w : World} {mo : Option Nat} {D : DataW Value} (h : MapAt w mo D) (s : ByteArray) (hs : s.size ≤ maxLen) :
    (Instr.lookup 58 (.map mo) (.string s) true).run Tryd.prog w = .ok (.tuple #[valAt D s.data.toList, .bool (has D (.string s.data.toList))]) w := by
  cases mo with
  | none =>
    rw [show D = .map [] from h, look_nil true skey tmap (zeroInt w) (skey_of s hs)]
    rfl
  | some b =>
    obtain ⟨v, ps, hrun, hv⟩ := World.ownsMap.look_ok h skey tmap (zeroInt w) (zd := .held zeroI) (zp := []) rfl (skey_of s hs)
    rw [hrun, valAt]
    simp only [heldR, Option.some.injEq, Prod.mk.injEq] at hv
    rw [← hv.1]
theorem map_len {w : World} {mo : Option Nat} {D : DataW Value} (h : MapAt w mo D) (ty : TypeId) : (Builtin.len_ #[58] ty #[.map mo]).run Tryd.prog w = .ok (.int .i64 (Maps.size D)) w := by
  cases mo with
  | none =>
    rw [show D = .map [] from h]
    exact Maps.len_nil tmap ty
  | some b => exact World.ownsMap.len h tmap ty
theorem store_score {w : World} {b : Nat} {D : DataW Value} (h : MapAt w (some b) D) (s : ByteArray) (hs : s.size ≤ maxLen) (hn : size D < maxLen) (v : Value) :
    ∃ w', (Instr.mapUpdate 58 (.map (some b)) (.string s) v).run Tryd.prog w = .ok () w' ∧ MapAt w' (some b) (D.put (.string s.data.toList) (.held v)) ∧ w.grownBy w' (some b) := by
  obtain ⟨w', hrun, ho, hg⟩ := World.ownsMap.store h skey tmap hn (skey_of s hs) (val := v) (d := .held v) (ps := []) rfl
  exact ⟨w', hrun, tight ho, hg.grown⟩
theorem drop_score {w : World} {b : Nat} {D : DataW Value} (h : MapAt w (some b) D) (s : ByteArray) (hs : s.size ≤ maxLen) (ty : TypeId) :
    ∃ w', (Builtin.delete_ #[58, 9] ty #[.map (some b), .string s]).run Tryd.prog w = .ok (.tuple #[]) w' ∧ MapAt w' (some b) (D.del (.string s.data.toList)) ∧ w.grownBy w' (some b) := by
  obtain ⟨w', hrun, ho, hg⟩ := World.ownsMap.drop h skey tmap (skey_of s hs) ty
  exact ⟨w', hrun, tight ho, hg.grown⟩
theorem map_made (w : World) : MapAt (w.alloc (.map #[] 0)) (some w.heap.size) (.map []) := World.ownsMap_made w _ _ _
theorem valAt_none {D : DataW Value} {s : List UInt8} (h : has D (.string s) = false) : valAt D s = zeroI := by
  rw [valAt, atKey_of_not_has h]
theorem valAt_put {D : DataW Value} (h : Tidy D) (s t : List UInt8) (v : Value) : valAt (D.put (.string s) (.held v)) t = if s = t then v else valAt D t := by
  unfold valAt
  by_cases e : s = t
  · subst e
    rw [atKey_put_same h.isMap (keyLit _), if_pos rfl]
  · rw [atKey_put_other (fun x => e (by injection x with y; exact y.symm)), if_neg e]
theorem has_put {D : DataW Value} (h : Tidy D) (s t : List UInt8) (v : Value) : has (D.put (.string s) (.held v)) (.string t) = if s = t then true else has D (.string t) := by
  split
  · rename_i e
    subst e
    rw [has_put_same h.isMap (keyLit _)]
  · rename_i e
    rw [has_put_other (fun x => e (by injection x with y; exact y.symm))]
theorem valAt_del {D : DataW Value} (s t : List UInt8) : valAt (D.del (.string s)) t = if s = t then zeroI else valAt D t := by
  unfold valAt
  by_cases e : s = t
  · subst e
    rw [atKey_del_same, if_pos rfl]
  · rw [atKey_del_other (fun x => e (by injection x with y; exact y.symm)), if_neg e]
theorem has_del {D : DataW Value} (s t : List UInt8) : has (D.del (.string s)) (.string t) = if s = t then false else has D (.string t) := by
  split
  · rename_i e
    subst e
    rw [has_del_same]
  · rename_i e
    rw [has_del_other (fun x => e (by injection x with y; exact y.symm))]
/-- The map says what the list says. -/
structure MapIs (D : DataW Value) (l : List SkM.E) : Prop where
  size : Maps.size D = l.length
  has_ : ∀ s, has D (.string s) = (SkM.get l s).isSome
  val : ∀ s, valAt D s = .int .i64 ((SkM.get l s).getD 0)
theorem mapis_nil : MapIs (.map []) [] := ⟨rfl, fun s => rfl, fun s => rfl⟩
theorem MapIs.put {D : DataW Value} {l : List SkM.E} (t : Tidy D) (h : MapIs D l) (o : SkM.Ok l) (s : List UInt8) (v : Int) : MapIs (D.put (.string s) (.held (.int .i64 v))) (SkM.put l s v) := by
  refine ⟨?_, fun u => ?_, fun u => ?_⟩
  · rw [size_put t, SkM.put_len o, h.has_, h.size]
  · rw [has_put t, SkM.get_put o, h.has_]
    split <;> rfl
  · rw [valAt_put t, SkM.get_put o, h.val]
    split <;> rfl
theorem MapIs.del {D : DataW Value} {l : List SkM.E} (t : Tidy D) (h : MapIs D l) (o : SkM.Ok l) (s : List UInt8) : MapIs (D.del (.string s)) (SkM.del l s) := by
  refine ⟨?_, fun u => ?_, fun u => ?_⟩
  · have h1 := size_del (k := .string s) t
    have h2 := SkM.del_length o s
    rw [h.has_, h.size] at h1
    omega
  · rw [has_del, SkM.get_del o, h.has_]
    split <;> rfl
  · rw [valAt_del, SkM.get_del o, h.val]
    split <;> rfl
/-- The map as the list says it. -/
def Scores (w : World) (mo : Option Nat) (l : List SkM.E) : Prop := ∃ D, MapAt w mo D ∧ MapIs D l
theorem Scores.same {w w' : World} {mo : Option Nat} {l : List SkM.E} (h : Scores w mo l) (k : ∀ b, mo = some b → w'.heap[b]? = w.heap[b]?) : Scores w' mo l := by
  obtain ⟨D, h1, h2⟩ := h
  exact ⟨D, h1.same k, h2⟩
theorem Scores.lt {w : World} {b : Nat} {l : List SkM.E} (h : Scores w (some b) l) : b < w.heap.size := by
  obtain ⟨D, h1, h2⟩ := h
  exact h1.lt
theorem Scores.look {w : World} {mo : Option Nat} {l : List SkM.E} (h : Scores w mo l) (s : ByteArray) (hs : s.size ≤ maxLen) :
    (Instr.lookup 58 (.map mo) (.string s) true).run Tryd.prog w = .ok (.tuple #[.int .i64 ((SkM.get l s.data.toList).getD 0), .bool (SkM.get l s.data.toList).isSome]) w := by
  obtain ⟨D, h1, h2⟩ := h
  rw [look_ok h1 s hs, h2.val, h2.has_]
theorem Scores.len {w : World} {mo : Option Nat} {l : List SkM.E} (h : Scores w mo l) (ty : TypeId) : (Builtin.len_ #[58] ty #[.map mo]).run Tryd.prog w = .ok (.int .i64 (l.length : Int)) w := by
  obtain ⟨D, h1, h2⟩ := h
  rw [map_len h1, h2.size]
theorem Scores.store {w : World} {b : Nat} {l : List SkM.E} (h : Scores w (some b) l) (o : SkM.Ok l) (s : ByteArray) (hs : s.size ≤ maxLen) (hn : l.length ≤ 1000) (v : Int) :
    ∃ w', (Instr.mapUpdate 58 (.map (some b)) (.string s) (.int .i64 v)).run Tryd.prog w = .ok () w' ∧ Scores w' (some b) (SkM.put l s.data.toList v) ∧ w.grownBy w' (some b) := by
  obtain ⟨D, h1, h2⟩ := h
  obtain ⟨w', hr, h3, hg⟩ := store_score h1 s hs (by rw [h2.size]; unfold maxLen; omega) (.int .i64 v)
  exact ⟨w', hr, ⟨_, h3, h2.put h1.tidy o _ _⟩, hg⟩
theorem Scores.drop {w : World} {b : Nat} {l : List SkM.E} (h : Scores w (some b) l) (o : SkM.Ok l) (s : ByteArray) (hs : s.size ≤ maxLen) (ty : TypeId) :
    ∃ w', (Builtin.delete_ #[58, 9] ty #[.map (some b), .string s]).run Tryd.prog w = .ok (.tuple #[]) w' ∧ Scores w' (some b) (SkM.del l s.data.toList) ∧ w.grownBy w' (some b) := by
  obtain ⟨D, h1, h2⟩ := h
  obtain ⟨w', hr, h3, hg⟩ := drop_score h1 s hs ty
  exact ⟨w', hr, ⟨_, h3, h2.del h1.tidy o _⟩, hg⟩
theorem scores_new (w : World) : Scores (w.alloc (.map #[] 0)) (some w.heap.size) [] := ⟨_, map_made w, mapis_nil⟩
theorem scores_nil (w : World) : Scores w none [] := ⟨_, rfl, mapis_nil⟩
end Go.Proofs.YtopnbfhkfagemaaDoor
