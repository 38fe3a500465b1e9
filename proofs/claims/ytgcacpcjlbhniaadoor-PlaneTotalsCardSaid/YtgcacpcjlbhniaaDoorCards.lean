/-
  DERIVED. GIVEN WITH THE SEED: THE CARDS: each row of YtgcacpcjlbhniaaDoorRows.lean that lists a variable, with what it lists TIED to the program's text (the seventh form; the later family's looks); each row that meets fmt, with fmt's text TOLD by the authors' own Lean function (tested against real Go, not proved from fmt's source: count such statements apart). THE CARD IS WHAT COUNTS. Prove the row's statement (the work); the ties are given (YtgcacpcjlbhniaaDoorTie.lean); close each card by the builder's one call (the guide's Derived/Test/ToyasCard.lean, 'card_holds'). Laid BY PROGRAM, IN A SANDBOX (cutbox-door.mjs). By AI agents, Wed Nov 11 2026. No macro, syntax, notation, axiom, sorry.
-/
import Derived.Test.YtgcacpcjlbhniaaDoorRows
import GoSem.ClaimSeven
namespace Go.Proofs.YtgcacpcjlbhniaaDoor
namespace Rows

/-- THE TIED CARD OF 'scriptoriumlaw5.PlaneTotals'. -/
def planeTotalsCard : Claim7 := { stood := { row := planeTotalsRow, standIns := [], harness := (true, "8135d25088e7b17b4fb6a5ccaf082b6449ace38d15708336c3520286e2710cfc"), looks := false }, kinds := [], alts := [], laidByText := true, laidKinds := [.data, .data, .data], laidTests := true, laidLooks := .later }
def PlaneTotalsCardSaid : Prop := Claim7.holds Tryd.pinned (.plain (OpenSpec.ofChange planeTotalsSpec)) planeTotalsCard

/-- THE SECOND FORM's CARD OF 'scriptoriumlaw5.PlaneTotals'. -/
def planeTotalsUptoCard : Claim7 := { stood := { row := planeTotalsUptoRow, standIns := [], harness := (true, "8135d25088e7b17b4fb6a5ccaf082b6449ace38d15708336c3520286e2710cfc"), looks := false }, kinds := [], alts := [], laidByText := true, laidKinds := [.data, .data, .data], laidTests := true, laidLooks := .later }
def PlaneTotalsUptoCardSaid : Prop := Claim7.holds Tryd.pinned (.plain (OpenSpec.upto planeTotalsSpec)) planeTotalsUptoCard
end Rows
end Go.Proofs.YtgcacpcjlbhniaaDoor
