/- A key's value as the document says it, in plain words; where it lies in memory; Len, Name, isPure of package value. -/
import Derived.Test.YtgokjdlemfaagaaAddr
import Derived.WalkKit
import Derived.WalkSpells
import Derived.WalkLawsBesides
import Derived.Lib.Hide
import Derived.BigRegion
import Derived.BigQuiet
namespace Go.Proofs.Ytgokjdlemfaagaa
open Go.RowKit
set_option linter.unusedVariables false
structure Vl where
  kind : Int
  text : ByteArray
  list : List ByteArray
  fields : List (ByteArray × ByteArray)
  scores : List (ByteArray × Int)
  points : List (ByteArray × Nat × Nat)
namespace Vl
/-- How many elements it has (a string: bytes). -/
def len (x : Vl) : Nat := if x.kind = 1 then x.text.size else if x.kind = 2 then x.list.length else if x.kind = 3 then x.fields.length else if x.kind = 4 then x.scores.length else if x.kind = 5 then x.points.length else 0
def all (x : Vl) : Nat := x.text.size + x.list.length + x.fields.length + x.scores.length + x.points.length
/-- The names of its elements. -/
def names (x : Vl) : List ByteArray := if x.kind = 3 then x.fields.map Prod.fst else if x.kind = 4 then x.scores.map Prod.fst else if x.kind = 5 then x.points.map Prod.fst else []
/-- All its strings. -/
def texts (x : Vl) : List ByteArray := if x.kind = 1 then [x.text] else if x.kind = 2 then x.list else if x.kind = 3 then x.fields.flatMap (fun f => [f.1, f.2]) else x.names
def sum : List ByteArray → Nat
  | [] => 0
  | s :: r => s.size + sum r
theorem sum_append : ∀ a b : List ByteArray, sum (a ++ b) = sum a + sum b
  | [], b => by simp [sum]
  | s :: r, b => by simp only [List.cons_append, sum, sum_append r b]; omega
def many (x : Vl) : Bool := decide (x.kind = 2) || decide (x.kind = 3) || decide (x.kind = 4) || decide (x.kind = 5)
def size (x : Vl) : Nat := 16 + (if x.many then 16 * x.len else 0) + sum x.texts
/-- Is a name at most the other one? -/
def le (a b : ByteArray) : Bool := Op.bytesLess a.toList b.toList || a.toList == b.toList
/-- Does each name rise above the one ahead of it? -/
def riseFrom : ByteArray → List ByteArray → Bool
  | _, [] => true
  | b, s :: r => !le s b && riseFrom s r
def rise : List ByteArray → Bool
  | [] => true
  | s :: r => riseFrom s r
def short (l : List ByteArray) : Bool := l.all fun s => decide (s.size ≤ 4096)
/-- Does a score with its name come ahead of another one? -/
def less (a b : ByteArray × Int) : Bool := decide (a.2 < b.2) || (decide (a.2 = b.2) && Op.bytesLess a.1.toList b.1.toList)
def sorted : List (ByteArray × Int) → Bool
  | a :: b :: r => !less b a && sorted (b :: r)
  | _ => true
def unique : List (ByteArray × Int) → Bool
  | [] => true
  | a :: r => !(r.any fun b => a.1.toList == b.1.toList) && unique r
def inOrder (pt : Nat × Nat → Bool) (x : Vl) : Bool :=
  if x.kind = 4 then sorted x.scores && unique x.scores else if x.kind = 5 then (x.points.all fun p => pt p.2) && rise x.names else if x.kind = 3 then rise x.names else true
def may (pt : Nat × Nat → Bool) (x : Vl) : Bool :=
  decide (x.all = x.len) && ((x.many && decide (1 ≤ x.len) && decide (x.len ≤ 1000) && inOrder pt x) || decide (x.kind = 1)) && short x.texts && decide (x.size ≤ 262144)
end Vl
/-- The cells behind A read as these values; they lie below block B. -/
def Cells (w : World) (B : Nat) (A : Option Addr) (cs : List Value) : Prop := ∀ i (h : i < cs.length), ∃ p : Addr, A = some p ∧ p.block < B ∧ w.cell? (p.add i) = some cs[i]
theorem Cells.empty {w : World} {B : Nat} {A : Option Addr} : Cells w B A [] := fun i h => absurd h (by simp)
theorem Cells.below {w w' : World} {B : Nat} {A : Option Addr} {cs : List Value} (h : Cells w B A cs) (hb : Below B w w') : Cells w' B A cs := fun i hi => by
  obtain ⟨p, e, hp, hc⟩ := h i hi
  exact ⟨p, e, hp, by rw [hb.cell (by rw [add_block]; exact hp)]; exact hc⟩
theorem Cells.up {w : World} {B B' : Nat} {A : Option Addr} {cs : List Value} (h : Cells w B A cs) (k : B ≤ B') : Cells w B' A cs := fun i hi => by
  obtain ⟨p, e, hp, hc⟩ := h i hi
  exact ⟨p, e, Nat.lt_of_lt_of_le hp k, hc⟩
def cells1 {X : Type} (f : X → Value) (l : List X) : List Value := l.map f
def cells2 {X : Type} (f g : X → Value) : List X → List Value
  | [] => []
  | a :: r => f a :: g a :: cells2 f g r
section
variable {X : Type} {f g : X → Value}
theorem cells2_length : ∀ l : List X, (cells2 f g l).length = l.length * 2
  | [] => rfl
  | a :: r => by simp [cells2, cells2_length r]; omega
theorem cells2_append : ∀ a b : List X, cells2 f g (a ++ b) = cells2 f g a ++ cells2 f g b
  | [], b => rfl
  | a :: r, b => by simp [cells2, cells2_append r b]
theorem cells2_at : ∀ (l : List X) (i : Nat) (h : i < l.length), (cells2 f g l)[i * 2]? = some (f l[i]) ∧ (cells2 f g l)[i * 2 + 1]? = some (g l[i])
  | [], i, h => by cases h
  | a :: r, 0, h => by simp [cells2]
  | a :: r, i + 1, h => by
    obtain ⟨x, y⟩ := cells2_at r i (by simpa using h)
    have e : (i + 1) * 2 = i * 2 + 2 := by omega
    rw [e]
    simp only [cells2, List.getElem?_cons_succ, List.getElem_cons_succ]
    exact ⟨x, y⟩
theorem Cells.at1 {w : World} {B : Nat} {A : Option Addr} {l : List X} (h : Cells w B A (cells1 f l)) (i : Nat) (hi : i < l.length) : ∃ p : Addr, A = some p ∧ p.block < B ∧ w.cell? (p.add i) = some (f l[i]) := by
  obtain ⟨p, e, hp, hc⟩ := h i (by simpa [cells1] using hi)
  exact ⟨p, e, hp, by rw [hc]; simp [cells1]⟩
theorem Cells.at2 {w : World} {B : Nat} {A : Option Addr} {l : List X} (h : Cells w B A (cells2 f g l)) (i : Nat) (hi : i < l.length) : ∃ p : Addr, A = some p ∧ p.block < B ∧ w.cell? (p.add (i * 2)) = some (f l[i]) ∧ w.cell? ⟨(p.add (i * 2)).block, (p.add (i * 2)).off + 1, none⟩ = some (g l[i]) := by
  obtain ⟨h1, h2⟩ := cells2_at (f := f) (g := g) l i hi
  obtain ⟨k1, h1⟩ := List.getElem?_eq_some_iff.1 h1
  obtain ⟨k2, h2⟩ := List.getElem?_eq_some_iff.1 h2
  obtain ⟨p, e, hp, hc⟩ := h (i * 2) k1
  obtain ⟨p', e', _, hc'⟩ := h (i * 2 + 1) k2
  rw [e] at e'
  cases e'
  rw [h1] at hc
  rw [h2] at hc'
  refine ⟨p, e, hp, hc, ?_⟩
  have a : (p.add (i * 2)).add 1 = ⟨(p.add (i * 2)).block, (p.add (i * 2)).off + 1, none⟩ := by
    rw [Addr.add, if_neg (by omega)]
  rw [← a, add_add]
  exact hc'
end
/-- v is a slice of n elements that reads as these cells; they lie below block B. -/
def Sl (w : World) (B : Nat) (v : Value) (n : Nat) (cs : List Value) : Prop := ∃ A c, v = .slice A n c ∧ (A = none → c = 0) ∧ n ≤ c ∧ Cells w B A cs
theorem Sl.below {w w' : World} {B : Nat} {v : Value} {n : Nat} {cs : List Value} (h : Sl w B v n cs) (hb : Below B w w') : Sl w' B v n cs := by
  obtain ⟨A, c, e, hA, hc, hr⟩ := h
  exact ⟨A, c, e, hA, hc, hr.below hb⟩
theorem Sl.up {w : World} {B B' : Nat} {v : Value} {n : Nat} {cs : List Value} (h : Sl w B v n cs) (k : B ≤ B') : Sl w B' v n cs := by
  obtain ⟨A, c, e, hA, hc, hr⟩ := h
  exact ⟨A, c, e, hA, hc, hr.up k⟩
theorem Sl.none {w : World} {B : Nat} : Sl w B (.slice none 0 0) 0 [] := ⟨_, _, rfl, fun _ => rfl, Nat.le_refl _, Cells.empty⟩
def lcells (l : List ByteArray) : List Value := cells1 Value.string l
def fcells (l : List (ByteArray × ByteArray)) : List Value := cells2 (fun a => Value.string a.1) (fun a => Value.string a.2) l
def scells (l : List (ByteArray × Int)) : List Value := cells2 (fun a => Value.string a.1) (fun a => Value.int .i64 a.2) l
def pcells (l : List (ByteArray × Nat × Nat)) : List Value := cells2 (fun a => Value.string a.1) (fun a => Value.complex .f64 a.2.1 a.2.2) l
/-- v is the value x; what it has lies below block B. -/
def Vr (w : World) (B : Nat) (v : Value) (x : Vl) : Prop := ∃ vl vf vs vp, v = .agg #[.int .i64 x.kind, .string x.text, vl, vf, vs, vp] ∧
  Sl w B vl x.list.length (lcells x.list) ∧ Sl w B vf x.fields.length (fcells x.fields) ∧ Sl w B vs x.scores.length (scells x.scores) ∧ Sl w B vp x.points.length (pcells x.points)
theorem Vr.below {w w' : World} {B : Nat} {v : Value} {x : Vl} (h : Vr w B v x) (hb : Below B w w') : Vr w' B v x := by
  obtain ⟨vl, vf, vs, vp, e, h1, h2, h3, h4⟩ := h
  exact ⟨vl, vf, vs, vp, e, h1.below hb, h2.below hb, h3.below hb, h4.below hb⟩
theorem Vr.up {w : World} {B B' : Nat} {v : Value} {x : Vl} (h : Vr w B v x) (k : B ≤ B') : Vr w B' v x := by
  obtain ⟨vl, vf, vs, vp, e, h1, h2, h3, h4⟩ := h
  exact ⟨vl, vf, vs, vp, e, h1.up k, h2.up k, h3.up k, h4.up k⟩
theorem Vr.later {w w' : World} {v : Value} {x : Vl} (h : Vr w w.heap.size v x) (hb : Below w.heap.size w w') : Vr w' w'.heap.size v x := (h.below hb).up hb.size
/-- The same, the slices written out. -/
theorem Vr.shows {w : World} {B : Nat} {v : Value} {x : Vl} (h : Vr w B v x) : ∃ A2 c2 A3 c3 A4 c4 A5 c5, v = .agg #[.int .i64 x.kind, .string x.text, .slice A2 x.list.length c2, .slice A3 x.fields.length c3, .slice A4 x.scores.length c4, .slice A5 x.points.length c5] ∧
    Cells w B A2 (lcells x.list) ∧ Cells w B A3 (fcells x.fields) ∧ Cells w B A4 (scells x.scores) ∧ Cells w B A5 (pcells x.points) := by
  obtain ⟨vl, vf, vs, vp, rfl, ⟨A2, c2, rfl, -, -, h1⟩, ⟨A3, c3, rfl, -, -, h2⟩, ⟨A4, c4, rfl, -, -, h3⟩, ⟨A5, c5, rfl, -, -, h4⟩⟩ := h
  exact ⟨A2, c2, A3, c3, A4, c4, A5, c5, rfl, h1, h2, h3, h4⟩
theorem below_then {w a b : World} (h : Below w.heap.size w a) (k : Below a.heap.size a b) : Below w.heap.size w b := h.trans (k.mono h.size)
end Go.Proofs.Ytgokjdlemfaagaa
