/- Slices of ints among a law's arguments, opened. -/
import Derived.Test.YtgokjdlemfaagaaRowB
namespace Go.Proofs.Ytgokjdlemfaagaa
open Go.ChangeShapes Go.WideShapes Go.ChangeAt Go.RowKit Go.ChangeMaps
theorem cellsI : Try.prog.cellsOf 3 = 1 := by kernel_rfl
theorem open_numbers {H : Type} {enc : TypeId × Value → H} {w : World} {v : Value} {d : DataW H} {ps : List MemPlace} {r : Reach} {b0 : Nat} (hv : Value.okWide Try.prog w r b0 22 v)
    (h : DataW.Trod enc Try.prog w 0 (fun _ => true) true 22 v d ps) :
    ∃ (A : Option Addr) (l : List Int) (c : Nat), v = .slice A l.length c ∧ (A = none → c = 0) ∧ l.length ≤ c ∧ c ≤ maxLen ∧ Row w A (l.map (Value.int .i64)) ∧ ∀ x ∈ l, (Lit.int .i64 x).wf = true :=
  open_rows (Value.int .i64) (fun n => (Lit.int .i64 n).wf = true) Try.underlying22 cellsI (fun n cs y hy => by
    obtain ⟨s, rfl, -, hw⟩ := DataW.trod_int Try.underlying3 hy
    exact ⟨s, rfl, hw⟩) hv h
end Go.Proofs.Ytgokjdlemfaagaa
