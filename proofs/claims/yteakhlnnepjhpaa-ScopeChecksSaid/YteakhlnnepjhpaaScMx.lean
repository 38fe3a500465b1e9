/- Package scope, plain: what a walk over a tree makes of the names that are there (17.1 to 17.3), as functions of the tree. No program is named. -/
import Derived.Test.YteakhlnnepjhpaaKc
set_option linter.unusedVariables false
namespace Go.Proofs.Yteakhlnnepjhpaa.ScM
open PrM
/-- The names that are visible, how many of them are the function's own, its loops, the first error, the names from around; a count of all that was ever laid down. -/
structure Sc where
 names : List ByteArray
 own : Nat
 loops : Nat
 err : Int
 at_ : Int
 outer : List ByteArray
 ct : Nat
def is (a b : ByteArray) : Bool := decide (a.data.toList = b.data.toList)
def has (l : List ByteArray) (s : ByteArray) : Bool := l.any (is s)
def builtins : List ByteArray := [⟨#[116, 121, 112, 101]⟩, ⟨#[101, 114, 114, 111, 114]⟩, ⟨#[112, 99, 97, 108, 108]⟩, ⟨#[99, 114, 101, 97, 116, 101]⟩, ⟨#[114, 101, 115, 117, 109, 101]⟩, ⟨#[121, 105, 101, 108, 100]⟩, ⟨#[115, 116, 97, 116, 117, 115]⟩, ⟨#[116, 111, 115, 116, 114, 105, 110, 103]⟩, ⟨#[116, 111, 105, 110, 116]⟩, ⟨#[115, 117, 98]⟩, ⟨#[98, 121, 116, 101]⟩, ⟨#[99, 104, 97, 114]⟩, ⟨#[114, 101, 112]⟩, ⟨#[117, 112, 112, 101, 114]⟩, ⟨#[108, 111, 119, 101, 114]⟩, ⟨#[114, 101, 118, 101, 114, 115, 101]⟩, ⟨#[102, 105, 110, 100]⟩, ⟨#[105, 110, 115, 101, 114, 116]⟩, ⟨#[114, 101, 109, 111, 118, 101]⟩, ⟨#[107, 101, 121, 115]⟩, ⟨#[106, 111, 105, 110]⟩, ⟨#[99, 97, 108, 108]⟩]
def builtin (s : ByteArray) : Bool := has builtins s
def fault (c a : Int) (st : Sc) : Sc := if st.err = 0 then { st with err := c, at_ := a } else st
def declare (l : List ByteArray) (st : Sc) : Sc := { st with names := st.names ++ l, own := st.own + l.length, ct := st.ct + l.length }
def enter (k : Int) (st : Sc) : Sc := { st with own := if k = 3 then 0 else st.own, loops := if k = 2 then st.loops + 1 else if k = 3 then 0 else st.loops, ct := st.ct + 1 }
def back (st0 st : Sc) : Sc := { st with names := st0.names, own := st0.own, loops := st0.loops }
def scope (k : Int) (ps : List ByteArray) (body : Sc → Sc) (st : Sc) : Sc := back st (body (declare ps (enter k st)))
def limit (ns : List ByteArray) (a : Int) (st : Sc) : Sc := if 150 < st.own + ns.length then fault 8 a st else st
def note (s : ByteArray) (st : Sc) : Sc := if has st.outer s then st else { st with outer := st.outer ++ [s], ct := st.ct + 1 }
def use (s : ByteArray) (a : Int) (st : Sc) : Sc := if has st.names s || builtin s then st else note s (fault 14 a st)
def brk (a : Int) (st : Sc) : Sc := if st.loops = 0 then fault 14 a st else st
def target (l : X) (st : Sc) : Sc :=
 match l with
 | .cons (.e k a _ s _ _ _) _ => if k = 6 ∧ (builtin s = true ∧ has st.names s = false) then fault 14 a st else st
 | _ => st
def runs (l : List (Sc → Sc)) (st : Sc) : Sc := l.foldl (fun s f => f s) st
/-- Conditions and blocks as they take turns. -/
def cs (L B : List (Sc → Sc)) : Nat → Sc → Sc
 | 0, st => st
 | i + 1, st => B.getD i id (L.getD i id (cs L B i st))
def parts (L B : List (Sc → Sc)) (st : Sc) : Sc := runs (B.map (scope 1 [])) (runs L st)
/-- A statement: its kind, place, names, expressions; what these and its blocks do. -/
def act (k a : Int) (ns : List ByteArray) (l : X) (L B : List (Sc → Sc)) (st : Sc) : Sc :=
 if k = 1 then declare ns (parts L B (limit ns a st))
 else if k = 12 then parts L B (declare ns (limit ns a st))
 else if k = 2 then parts L B (target l st)
 else if k = 4 then cs L (B.map (scope 1 [])) (max L.length B.length) st
 else if k = 5 then runs (B.map (scope 2 [])) (runs L st)
 else if k = 6 ∨ k = 7 then runs (B.map (scope 2 ns)) (runs L (limit ns a st))
 else if k = 8 then scope 2 [] (fun s => runs L (runs B s)) st
 else if k = 9 then parts L B (brk a st)
 else parts L B st
/-- What an element does; what the elements of a row do. -/
def sem : X → (Sc → Sc) × List (Sc → Sc)
 | .nil => (id, [])
 | .cons h t => (id, (sem h).1 :: (sem t).2)
 | .e k a _ s _ l f => (fun st => runs (sem f).2 (runs (sem l).2 (if k = 6 then use s a st else st)), [])
 | .f ps b => (scope 3 ps (runs (sem b).2), [])
 | .s k a ns l b => (act k a ns l (sem l).2 (sem b).2, [])
 | .blk l => (runs (sem l).2, [])
/-- All that may be laid down on the way. -/
def sz : X → Nat
 | .nil => 0
 | .cons h t => sz h + sz t
 | .e _ _ _ _ _ l f => 1 + sz l + sz f
 | .f ps b => 1 + ps.length + sz b
 | .s _ _ ns l b => 1 + ns.length + sz l + sz b + b.len * (1 + ns.length)
 | .blk l => sz l
/-- The names that stay, behind an element, behind a row. -/
def dc : X → List ByteArray × List ByteArray
 | .cons h t => ([], (dc h).1 ++ (dc t).2)
 | .s k _ ns _ _ => (if k = 1 ∨ k = 12 then ns else [], [])
 | .blk l => ((dc l).2, [])
 | _ => ([], [])
/-- Rows of one kind of elements, by their cells. -/
def kz : X → Nat
 | .e .. => 7
 | .f .. => 2
 | .s .. => 5
 | .blk _ => 1
 | _ => 0
def row : Nat → X → Prop
 | _, .nil => True
 | z, .cons h t => kz h = z ∧ row z t
 | _, _ => False
def wf : X → Prop
 | .nil => True
 | .cons h t => wf h ∧ wf t
 | .e _ _ _ _ _ l f => row 7 l ∧ row 2 f ∧ wf l ∧ wf f
 | .f _ b => row 5 b ∧ wf b
 | .s _ _ _ l b => row 7 l ∧ row 1 b ∧ wf l ∧ wf b
 | .blk l => row 5 l ∧ wf l
/-- The state behind: these names more, the same loops, not much more laid down. -/
structure Ext (ds : List ByteArray) (n : Nat) (st st' : Sc) : Prop where
 names : st'.names = st.names ++ ds
 own : st'.own = st.own + ds.length
 loops : st'.loops = st.loops
 ct : st'.ct ≤ st.ct + n
 lo : st.ct ≤ st'.ct
section
variable {st st' st'' : Sc} {n m : Nat} {ds es : List ByteArray}
theorem Ext.refl (st : Sc) : Ext [] 0 st st := ⟨by simp, rfl, rfl, Nat.le_refl _, Nat.le_refl _⟩
theorem Ext.trans (h : Ext ds n st st') (k : Ext es m st' st'') : Ext (ds ++ es) (n + m) st st'' :=
 ⟨by rw [k.names, h.names, List.append_assoc], by rw [k.own, h.own, List.length_append]; omega, k.loops.trans h.loops, by have := h.ct; have := k.ct; omega, Nat.le_trans h.lo k.lo⟩
theorem Ext.wide (h : Ext ds n st st') (k : n ≤ m) : Ext ds m st st' := ⟨h.names, h.own, h.loops, by have := h.ct; omega, h.lo⟩
theorem fault_ext (c a : Int) (st : Sc) : Ext [] 0 st (fault c a st) := by
 unfold fault
 split
 ·exact ⟨by simp, rfl, rfl, Nat.le_refl _, Nat.le_refl _⟩
 ·exact Ext.refl _
theorem declare_ext (l : List ByteArray) (st : Sc) : Ext l l.length st (declare l st) := ⟨rfl, rfl, rfl, Nat.le_refl _, Nat.le_add_right _ _⟩
theorem limit_ext (ns : List ByteArray) (a : Int) (st : Sc) : Ext [] 0 st (limit ns a st) := by
 unfold limit
 split
 ·exact fault_ext _ _ _
 ·exact Ext.refl _
theorem note_ext (s : ByteArray) (st : Sc) : Ext [] 1 st (note s st) := by
 unfold note
 split
 ·exact (Ext.refl _).wide (by omega)
 ·exact ⟨by simp, rfl, rfl, Nat.le_refl _, Nat.le_succ _⟩
theorem use_ext (s : ByteArray) (a : Int) (st : Sc) : Ext [] 1 st (use s a st) := by
 unfold use
 split
 ·exact (Ext.refl _).wide (by omega)
 ·exact ((fault_ext 14 a st).trans (note_ext s _)).wide (by omega)
theorem brk_ext (a : Int) (st : Sc) : Ext [] 0 st (brk a st) := by
 unfold brk
 split
 ·exact fault_ext _ _ _
 ·exact Ext.refl _
theorem target_ext (l : X) (st : Sc) : Ext [] 0 st (target l st) := by
 unfold target
 split
 ·split
  ·exact fault_ext _ _ _
  ·exact Ext.refl _
 ·exact Ext.refl _
theorem scope_ext {body : Sc → Sc} (k : Int) (ps : List ByteArray) (hb : ∀ s, ∃ ds, Ext ds n s (body s)) (st : Sc) : Ext [] (1 + ps.length + n) st (scope k ps body st) := by
 obtain ⟨ds, h⟩ := hb (declare ps (enter k st))
 have l := h.lo
 refine ⟨by simp [scope, back], rfl, rfl, ?_, Nat.le_trans (by simp only [declare, enter]; omega) l⟩
 have := h.ct
 show (body (declare ps (enter k st))).ct ≤ _
 simp only [declare, enter] at this ⊢
 omega
theorem runs_nil (st : Sc) : runs [] st = st := rfl
theorem runs_cons (f : Sc → Sc) (l : List (Sc → Sc)) (st : Sc) : runs (f :: l) st = runs l (f st) := rfl
theorem runs_append (a b : List (Sc → Sc)) (st : Sc) : runs (a ++ b) st = runs b (runs a st) := by unfold runs; rw [List.foldl_append]
end
end Go.Proofs.Yteakhlnnepjhpaa.ScM
