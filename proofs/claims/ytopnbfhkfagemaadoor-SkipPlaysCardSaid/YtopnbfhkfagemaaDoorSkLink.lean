/- Package skip: a name put among the others, or taken out, level by level: what the stores leave. -/
import Derived.Test.YtopnbfhkfagemaaDoorSkBody
namespace Go.Proofs.YtopnbfhkfagemaaDoor
open Go.RowKit
set_option linter.unusedVariables false
/-- The levels below i are those of the names new, the others those of old. -/
structure Mid (w : World) (F i : Nat) (new old : List Nd) : Prop where
  lo : ∀ l, l < i → Lev w l F new
  hi : ∀ l, i ≤ l → l < 20 → Lev w l F old
theorem Mid.step {D : Addr → Prop} {w w' : World} {F i : Nat} {new old : List Nd} (m : Mid w F i new old) (t : Turn D w w') (hD : ∀ a, D a → a.off = i * 2 ∨ a.off = i * 2 + 1) (hl : Lev w' i F new) : Mid w' F (i + 1) new old := by
  have far : ∀ (b l : Nat), l ≠ i → ¬ D ⟨b, l * 2, none⟩ ∧ ¬ D ⟨b, l * 2 + 1, none⟩ := fun b l e => ⟨fun h => by
    have h := hD _ h
    have h : l * 2 = i * 2 ∨ l * 2 = i * 2 + 1 := h
    omega, fun h => by
    have h := hD _ h
    have h : l * 2 + 1 = i * 2 ∨ l * 2 + 1 = i * 2 + 1 := h
    omega⟩
  refine ⟨fun l h => ?_, fun l h k => ?_⟩
  · by_cases e : l = i
    · subst e; exact hl
    · exact (m.lo l (by omega)).turn t (far _ _ e).1 (far _ _ e).2 fun x _ _ => far _ _ e
  · exact (m.hi l (by omega) k).turn t (far _ _ (by omega)).1 (far _ _ (by omega)).2 fun x _ _ => far _ _ (by omega)
theorem Mid.below {w w' : World} {F i : Nat} {new old : List Nd} (m : Mid w F i new old) (hb : Below w.heap.size w w') : Mid w' F i new old :=
  ⟨fun l h => (m.lo l h).turn (Turn.of_below (D := fun _ => False) hb) (fun e => e) (fun e => e) fun _ _ _ => ⟨fun e => e, fun e => e⟩, fun l h k => (m.hi l h k).turn (Turn.of_below (D := fun _ => False) hb) (fun e => e) (fun e => e) fun _ _ _ => ⟨fun e => e, fun e => e⟩⟩
/-- Two cells of a link stored. -/
def two (B i : Nat) : Addr → Prop := fun a => a = ⟨B, i * 2, none⟩ ∨ a = ⟨B, i * 2 + 1, none⟩
def put2 (w : World) (B i : Nat) (o : Option Addr) (n : Int) : World := (w.setCell ⟨B, i * 2, none⟩ (.pointer o)).setCell ⟨B, i * 2 + 1, none⟩ (.int .i64 n)
theorem put2_turn (w : World) (B i : Nat) (o : Option Addr) (n : Int) : Turn (two B i) w (put2 w B i o n) :=
  ((Turn.refl _ w).store (.inl (.inl rfl)) _).store (.inl (.inr rfl)) _
theorem put2_link {w : World} {B i : Nat} {u v : Value} (h0 : w.cell? ⟨B, i * 2, none⟩ = some u) (h1 : w.cell? ⟨B, i * 2 + 1, none⟩ = some v) {r : List Nd} {n : Int} (hn : ((nx i r).2 : Int) = n) : LinkAt (put2 w B i (pt (nx i r).1) n) B i r := by
  unfold put2
  refine ⟨?_, ?_⟩
  · rw [World.cell?_setCell_other _ _ _ _ (fun e => by injection e with _ e _; omega)]
    exact World.cell?_setCell_same _ _ _ h0
  · rw [hn]
    exact World.cell?_setCell_same (u := v) _ _ _ (by rw [World.cell?_setCell_other _ _ _ _ (fun e => by injection e with _ e _; omega), h1])
theorem two_off {B i : Nat} (a : Addr) (h : two B i a) : a.off = i * 2 ∨ a.off = i * 2 + 1 := by
  rcases h with rfl | rfl
  · exact .inl rfl
  · exact .inr rfl
theorem two_block {B i : Nat} (a : Addr) (h : two B i a) : a.block = B := by
  rcases h with rfl | rfl <;> rfl
section
variable {w : World} {F i B c : Nat} {P A r1 r2 : List Nd}
/-- A level relinked: the one link stored. -/
theorem Mid.relink (m : Mid w F i (P ++ (A ++ r2)) (P ++ (A ++ r1))) (hi : i < 20) (o : Hind F i P B c) (hA : ∀ y ∈ A, y.h ≤ i) (nd : (F :: P.map Nd.L).Nodup) (hr : LevR w i r2) (far : ∀ y ∈ r2, i < y.h → y.L ≠ B) {n : Int} (hn : ((nx i (A ++ r2)).2 : Int) = n) :
    Mid (put2 w B i (pt (nx i (A ++ r2)).1) n) F (i + 1) (P ++ (A ++ r2)) (P ++ (A ++ r1)) := by
  have lk := (m.hi i (Nat.le_refl _) hi).at_ o
  refine m.step (put2_turn _ _ _ _ _) two_off ?_
  refine (m.hi i (Nat.le_refl _) hi).turned o hA (put2_turn _ _ _ _ _) nd (fun e j h => e (two_block _ h)) (fun y _ e j h => e (two_block _ h)) (put2_link lk.to lk.width hn) ?_
  exact hr.turn (put2_turn _ _ _ _ _) fun x hx k => ⟨fun h => far x hx k (two_block _ h), fun h => far x hx k (two_block _ h)⟩
end
theorem lon_fst (k : Nat) (x : Option Nat × Nat) : (lon k x).1 = x.1 := by
  obtain ⟨o, n⟩ := x
  cases o <;> rfl
/-- What longer tells of a link. -/
theorem lonV_is (k : Int) (r : List Nd) (i n : Nat) (e : (nx i r).1 ≠ none → ((nx i r).2 : Int) + k = n) (e0 : (nx i r).1 = none → n = 0) : lonV (pt (nx i r).1) ((nx i r).2 : Int) k = .agg #[.pointer (pt (nx i r).1), .int .i64 n] := by
  unfold lonV
  rcases nx_cases i r with ⟨h, -⟩ | ⟨A, y, C, -, -, -, h⟩
  · rw [h] at e0 ⊢
    rw [e0 rfl]
    rfl
  · rw [h] at e ⊢
    have := e (by simp)
    show Value.agg #[.pointer (some _), .int .i64 _] = _
    rw [this]
    rfl
end Go.Proofs.YtopnbfhkfagemaaDoor
