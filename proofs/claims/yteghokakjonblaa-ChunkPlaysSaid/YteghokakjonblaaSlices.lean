/- Slices of texts, of bools among a law's arguments, opened: rows of cells. -/
import Derived.Test.YteghokakjonblaaLift
import Derived.Test.YteghokakjonblaaRowB
namespace Go.Proofs.Yteghokakjonblaa
open Go.ChangeShapes Go.WideShapes Go.ChangeAt Go.RowKit Go.ChangeMaps

theorem cellsS : Try.prog.cellsOf 9 = 1 := by kernel_rfl
theorem cellsB : Try.prog.cellsOf 4 = 1 := by kernel_rfl
theorem open_texts {H : Type} {enc : TypeId × Value → H} {w : World} {v : Value} {d : DataW H} {ps : List MemPlace} {r : Reach} {b0 : Nat} (hv : Value.okWide Try.prog w r b0 22 v)
    (h : DataW.Trod enc Try.prog w 0 (fun _ => true) true 22 v d ps) :
    ∃ (A : Option Addr) (l : List ByteArray) (c : Nat), v = .slice A l.length c ∧ (A = none → c = 0) ∧ l.length ≤ c ∧ c ≤ maxLen ∧ Row w A (l.map Value.string) ∧ ∀ x ∈ l, x.size ≤ maxLen :=
  open_rows Value.string (fun s => s.size ≤ maxLen) Try.underlying22 cellsS (fun n cs y hy => by
    obtain ⟨s, rfl, -, hw⟩ := DataW.trod_string Try.underlying9 hy
    exact ⟨s, rfl, hw⟩) hv h
end Go.Proofs.Yteghokakjonblaa
