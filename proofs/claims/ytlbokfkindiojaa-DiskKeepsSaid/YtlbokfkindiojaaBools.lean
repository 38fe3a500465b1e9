/- Slices of bools among a law's arguments, opened. -/
import Derived.Test.YtlbokfkindiojaaSlices
namespace Go.Proofs.Ytlbokfkindiojaa
open Go.ChangeShapes Go.WideShapes Go.ChangeAt Go.RowKit Go.ChangeMaps
theorem open_bools {H : Type} {enc : TypeId × Value → H} {w : World} {v : Value} {d : DataW H} {ps : List MemPlace} {r : Reach} {b0 : Nat} (hv : Value.okWide Try.prog w r b0 37 v)
    (h : DataW.Trod enc Try.prog w 0 (fun _ => true) true 37 v d ps) :
    ∃ (A : Option Addr) (l : List Bool) (c : Nat), v = .slice A l.length c ∧ (A = none → c = 0) ∧ l.length ≤ c ∧ c ≤ maxLen ∧ Row w A (l.map Value.bool) := by
  obtain ⟨A, l, c, e, hA, hl, hm, hr, -⟩ := open_rows Value.bool (fun _ => True) Try.underlying37 cellsB (fun n cs y hy => by
    obtain ⟨b, rfl, -⟩ := DataW.trod_bool Try.underlying4 hy
    exact ⟨b, rfl, trivial⟩) hv h
  exact ⟨A, l, c, e, hA, hl, hm, hr⟩
end Go.Proofs.Ytlbokfkindiojaa
