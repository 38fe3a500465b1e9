/- The map of files that package disk keeps: what stands in it, key by key; looked up, stored into, struck out of. -/
import Derived.Test.YthclaolmmlgalaaDiskI
import Derived.Maps.OwnSet
import Derived.Sort.KeysCollected
namespace Go.Proofs.Ythclaolmmlgalaa
open Go.RowKit Go.Maps
set_option linter.unusedVariables false

theorem skey : Keyed Try.prog 9 := string_keyed Try.underlying9
theorem tmap : Try.prog.underlying 36 = some (.map 9 57) := Try.underlying36
/-- An element as it stands. -/
def heldR (v : Value) : Option (DataW Value × List MemPlace) := some (.held v, [])
/-- A file without bytes. -/
def file0 : Value := .agg #[.slice none 0 0, .int .i64 0]
theorem zeroFile (w : World) : (zeroValue 57).run Try.prog w = .ok file0 w := by kernel_rfl
/-- A map in memory, nil let in. -/
def MapAt (w : World) : Option Nat → DataW Value → Prop
  | none, D => D = .map []
  | some b, D => w.ownsMap Try.prog 9 heldR b (size D) D
/-- The element at a key. -/
def fileAt (D : DataW Value) (s : List UInt8) : Value := match D.atKey (.string s) (.held file0) with | .held v => v | _ => file0
theorem keyLit (s : List UInt8) : WideAt.IsKeyLit (.string s) := by simp [WideAt.IsKeyLit]
theorem skey_of (s : ByteArray) (hs : s.size ≤ maxLen) : keyOf Try.prog 9 (.string s) = some (.string s.data.toList) := WideMaps.keyOf_string_mk Try.underlying9 hs
theorem tight {w : World} {b n : Nat} {D : DataW Value} (h : w.ownsMap Try.prog 9 heldR b n D) : MapAt w (some b) D := by
  obtain ⟨es, clock, hb, F, _, rfl⟩ := h
  exact ⟨es, clock, hb, F, by simp [Maps.size, length_sorted], rfl⟩
theorem MapAt.tidy {w : World} {mo : Option Nat} {D : DataW Value} (h : MapAt w mo D) : Tidy D := by
  cases mo with
  | none => rw [show D = .map [] from h]; exact tidy_empty
  | some b => exact World.ownsMap.tidy h skey
theorem MapAt.same {w w' : World} {mo : Option Nat} {D : DataW Value} (h : MapAt w mo D) (k : ∀ b, mo = some b → w'.heap[b]? = w.heap[b]?) : MapAt w' mo D := by
  cases mo with
  | none => exact h
  | some b =>
    obtain ⟨es, clock, hb, F, hs, hD⟩ := h
    exact ⟨es, clock, (k b rfl).trans hb, F, hs, hD⟩
theorem MapAt.lt {w : World} {b : Nat} {D : DataW Value} (h : MapAt w (some b) D) : b < w.heap.size := World.ownsMap.lt h
theorem look_file {w : World} {mo : Option Nat} {D : DataW Value} (h : MapAt w mo D) (s : ByteArray) (hs : s.size ≤ maxLen) :
    (Instr.lookup 36 (.map mo) (.string s) false).run Try.prog w = .ok (fileAt D s.data.toList) w := by
  cases mo with
  | none =>
    rw [show D = .map [] from h, look_nil false skey tmap (zeroFile w) (skey_of s hs)]
    rfl
  | some b =>
    obtain ⟨v, ps, hrun, hv⟩ := World.ownsMap.lookup h skey tmap (zeroFile w) (zd := .held file0) (zp := []) rfl (skey_of s hs)
    rw [hrun, fileAt]
    simp only [heldR, Option.some.injEq, Prod.mk.injEq] at hv
    rw [← hv.1]
theorem look_ok {w : World} {mo : Option Nat} {D : DataW Value} (h : MapAt w mo D) (s : ByteArray) (hs : s.size ≤ maxLen) :
    (Instr.lookup 36 (.map mo) (.string s) true).run Try.prog w = .ok (.tuple #[fileAt D s.data.toList, .bool (has D (.string s.data.toList))]) w := by
  cases mo with
  | none =>
    rw [show D = .map [] from h, look_nil true skey tmap (zeroFile w) (skey_of s hs)]
    rfl
  | some b =>
    obtain ⟨v, ps, hrun, hv⟩ := World.ownsMap.look_ok h skey tmap (zeroFile w) (zd := .held file0) (zp := []) rfl (skey_of s hs)
    rw [hrun, fileAt]
    simp only [heldR, Option.some.injEq, Prod.mk.injEq] at hv
    rw [← hv.1]
theorem store_file {w : World} {b : Nat} {D : DataW Value} (h : MapAt w (some b) D) (s : ByteArray) (hs : s.size ≤ maxLen) (hn : size D < maxLen) (v : Value) :
    ∃ w', (Instr.mapUpdate 36 (.map (some b)) (.string s) v).run Try.prog w = .ok () w' ∧ MapAt w' (some b) (D.put (.string s.data.toList) (.held v)) ∧ w.grownBy w' (some b) := by
  obtain ⟨w', hrun, ho, hg⟩ := World.ownsMap.store h skey tmap hn (skey_of s hs) (val := v) (d := .held v) (ps := []) rfl
  exact ⟨w', hrun, tight ho, hg.grown⟩
theorem drop_file {w : World} {b : Nat} {D : DataW Value} (h : MapAt w (some b) D) (s : ByteArray) (hs : s.size ≤ maxLen) (ty : TypeId) :
    ∃ w', (Builtin.delete_ #[36, 9] ty #[.map (some b), .string s]).run Try.prog w = .ok (.tuple #[]) w' ∧ MapAt w' (some b) (D.del (.string s.data.toList)) ∧ w.grownBy w' (some b) := by
  obtain ⟨w', hrun, ho, hg⟩ := World.ownsMap.drop h skey tmap (skey_of s hs) ty
  exact ⟨w', hrun, tight ho, hg.grown⟩
theorem map_made (w : World) : MapAt (w.alloc (.map #[] 0)) (some w.heap.size) (.map []) := World.ownsMap_made w _ _ _
theorem fileAt_none {D : DataW Value} {s : List UInt8} (h : has D (.string s) = false) : fileAt D s = file0 := by
  rw [fileAt, atKey_of_not_has h]
theorem fileAt_put {D : DataW Value} (h : Tidy D) (s t : List UInt8) (v : Value) : fileAt (D.put (.string s) (.held v)) t = if s = t then v else fileAt D t := by
  unfold fileAt
  by_cases e : s = t
  · subst e
    rw [atKey_put_same h.isMap (keyLit _), if_pos rfl]
  · rw [atKey_put_other (fun x => e (by injection x with y; exact y.symm)), if_neg e]
theorem has_put {D : DataW Value} (h : Tidy D) (s t : List UInt8) (v : Value) : has (D.put (.string s) (.held v)) (.string t) = if s = t then true else has D (.string t) := by
  split
  · rename_i e
    subst e
    rw [has_put_same h.isMap (keyLit _)]
  · rename_i e
    rw [has_put_other (fun x => e (by injection x with y; exact y.symm))]
theorem fileAt_del {D : DataW Value} (s t : List UInt8) : fileAt (D.del (.string s)) t = if s = t then file0 else fileAt D t := by
  unfold fileAt
  by_cases e : s = t
  · subst e
    rw [atKey_del_same, if_pos rfl]
  · rw [atKey_del_other (fun x => e (by injection x with y; exact y.symm)), if_neg e]
theorem has_del {D : DataW Value} (s t : List UInt8) : has (D.del (.string s)) (.string t) = if s = t then false else has D (.string t) := by
  split
  · rename_i e
    subst e
    rw [has_del_same]
  · rename_i e
    rw [has_del_other (fun x => e (by injection x with y; exact y.symm))]
/-- A slice of the disk's own stays what it is where its block does. -/
theorem row_same {w w' : World} {base n size : Nat} {t : TypeId} {v : Value} {xs : List Value} (h : w.ownsRow base t size v n xs) (k : ∀ b, v.ownBlock = some b → w'.heap[b]? = w.heap[b]?) : w'.ownsRow base t size v n xs := by
  obtain ⟨h1, h2⟩ := h
  refine ⟨h1, ?_⟩
  rcases h2 with x | ⟨g, cap, cur, rfl, hg, hb, r⟩
  · exact .inl x
  · exact .inr ⟨g, cap, cur, rfl, hg, (k g rfl).trans hb, r⟩
/-- The block of a file's bytes. -/
def blockOf : Value → Option Nat
  | .agg cs => (cs.getD 0 undef).ownBlock
  | _ => none
theorem blockOf_agg (v x : Value) : blockOf (.agg #[v, x]) = v.ownBlock := rfl
theorem blockOf_file0 : blockOf file0 = none := rfl
end Go.Proofs.Ythclaolmmlgalaa
