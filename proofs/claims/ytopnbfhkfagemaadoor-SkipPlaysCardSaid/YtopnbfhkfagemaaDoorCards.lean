/-
  DERIVED. GIVEN WITH THE SEED: THE CARDS: each row of YtopnbfhkfagemaaDoorRows.lean that lists a variable, with what it lists TIED to the program's text (the seventh form; the later family's looks); each row that meets fmt, with fmt's text TOLD by the authors' own Lean function (tested against real Go, not proved from fmt's source: count such statements apart). THE CARD IS WHAT COUNTS. Prove the row's statement (the work); the ties are given (YtopnbfhkfagemaaDoorTie.lean); close each card by the builder's one call (the guide's Derived/Test/ToyasCard.lean, 'card_holds'). Laid BY PROGRAM, IN A SANDBOX (cutbox-door.mjs). By AI agents, Wed Nov 11 2026. No macro, syntax, notation, axiom, sorry.
-/
import Derived.Test.YtopnbfhkfagemaaDoorRows
import GoSem.ClaimSeven
namespace Go.Proofs.YtopnbfhkfagemaaDoor
namespace Rows

/-- THE TIED CARD OF 'scriptoriumlaw8.SkipPlays'. -/
def skipPlaysCard : Claim7 := { stood := { row := skipPlaysRow, standIns := [], harness := (true, "cfcb8b27ce5a9f20b32233f913883caf8a96a585a8b5e9041fe0ca31b36a2280"), looks := false }, kinds := [], alts := [], laidByText := true, laidKinds := [.data], laidTests := true, laidLooks := .later }
def SkipPlaysCardSaid : Prop := Claim7.holds Tryd.pinned (.plain (OpenSpec.ofChange skipPlaysSpec)) skipPlaysCard

/-- THE TIED CARD OF 'scriptoriumlaw8.SkipOrder'. -/
def skipOrderCard : Claim7 := { stood := { row := skipOrderRow, standIns := [], harness := (true, "cfcb8b27ce5a9f20b32233f913883caf8a96a585a8b5e9041fe0ca31b36a2280"), looks := false }, kinds := [], alts := [], laidByText := true, laidKinds := [.data], laidTests := true, laidLooks := .later }
def SkipOrderCardSaid : Prop := Claim7.holds Tryd.pinned (.plain (OpenSpec.ofChange skipOrderSpec)) skipOrderCard

/-- THE TIED CARD OF 'scriptoriumlaw8.SkipMany'. -/
def skipManyCard : Claim7 := { stood := { row := skipManyRow, standIns := [], harness := (true, "cfcb8b27ce5a9f20b32233f913883caf8a96a585a8b5e9041fe0ca31b36a2280"), looks := false }, kinds := [], alts := [], laidByText := true, laidKinds := [.data], laidTests := true, laidLooks := .later }
def SkipManyCardSaid : Prop := Claim7.holds Tryd.pinned (.plain (OpenSpec.ofChange skipManySpec)) skipManyCard

/-- THE TIED CARD OF 'scriptoriumlaw8.SkipParts'. -/
def skipPartsCard : Claim7 := { stood := { row := skipPartsRow, standIns := [], harness := (true, "cfcb8b27ce5a9f20b32233f913883caf8a96a585a8b5e9041fe0ca31b36a2280"), looks := false }, kinds := [], alts := [], laidByText := true, laidKinds := [.data], laidTests := true, laidLooks := .later }
def SkipPartsCardSaid : Prop := Claim7.holds Tryd.pinned (.plain (OpenSpec.ofChange skipPartsSpec)) skipPartsCard

/-- THE SECOND FORM's CARD OF 'scriptoriumlaw8.SkipPlays'. -/
def skipPlaysUptoCard : Claim7 := { stood := { row := skipPlaysUptoRow, standIns := [], harness := (true, "cfcb8b27ce5a9f20b32233f913883caf8a96a585a8b5e9041fe0ca31b36a2280"), looks := false }, kinds := [], alts := [], laidByText := true, laidKinds := [.data], laidTests := true, laidLooks := .later }
def SkipPlaysUptoCardSaid : Prop := Claim7.holds Tryd.pinned (.plain (OpenSpec.upto skipPlaysSpec)) skipPlaysUptoCard

/-- THE SECOND FORM's CARD OF 'scriptoriumlaw8.SkipOrder'. -/
def skipOrderUptoCard : Claim7 := { stood := { row := skipOrderUptoRow, standIns := [], harness := (true, "cfcb8b27ce5a9f20b32233f913883caf8a96a585a8b5e9041fe0ca31b36a2280"), looks := false }, kinds := [], alts := [], laidByText := true, laidKinds := [.data], laidTests := true, laidLooks := .later }
def SkipOrderUptoCardSaid : Prop := Claim7.holds Tryd.pinned (.plain (OpenSpec.upto skipOrderSpec)) skipOrderUptoCard

/-- THE SECOND FORM's CARD OF 'scriptoriumlaw8.SkipMany'. -/
def skipManyUptoCard : Claim7 := { stood := { row := skipManyUptoRow, standIns := [], harness := (true, "cfcb8b27ce5a9f20b32233f913883caf8a96a585a8b5e9041fe0ca31b36a2280"), looks := false }, kinds := [], alts := [], laidByText := true, laidKinds := [.data], laidTests := true, laidLooks := .later }
def SkipManyUptoCardSaid : Prop := Claim7.holds Tryd.pinned (.plain (OpenSpec.upto skipManySpec)) skipManyUptoCard

/-- THE SECOND FORM's CARD OF 'scriptoriumlaw8.SkipParts'. -/
def skipPartsUptoCard : Claim7 := { stood := { row := skipPartsUptoRow, standIns := [], harness := (true, "cfcb8b27ce5a9f20b32233f913883caf8a96a585a8b5e9041fe0ca31b36a2280"), looks := false }, kinds := [], alts := [], laidByText := true, laidKinds := [.data], laidTests := true, laidLooks := .later }
def SkipPartsUptoCardSaid : Prop := Claim7.holds Tryd.pinned (.plain (OpenSpec.upto skipPartsSpec)) skipPartsUptoCard
end Rows
end Go.Proofs.YtopnbfhkfagemaaDoor
