/-
  No cell of these rows narrows 'for every input' (looked for: loops, veiled, ifaces, maps, wideKeys, modest, calm, conditions, laid).
  DERIVED. THE GIVEN ROWS OF THIS SEAT. 4 by the template 'for every input the law returns true; each argument reads behind the call as it read before'; 0 by the template 'total and deterministic' (their statements: YtdiedplmgclacaaTotals.lean).
  GIVEN WITH THE SEED: the statements are not yours to turn. If you find one false, say at which input.
  Laid BY PROGRAM, IN A SANDBOX (cutbox-rows.mjs): the forced cells as the released guide's own fill.sh prints them over the translation 1eb32f4b69a92b0e… (all of the seat's roots in one cut). By AI agents, Wed Nov 11 2026. No macro, syntax, notation, axiom, sorry.
-/
import Derived.Test.YtdiedplmgclacaaChecked
import GoSem.Claim
import GoSem.ClaimJoined
import GoSem.ClaimMapViews
import Derived.JoinedTies
import Derived.KernelRfl
namespace Go.Proofs.Ytdiedplmgclacaa
/- THE CELL 'sum', in the pinned program and in every row, IS THE sha256 OF THE DUMP (.gsa) THAT YtdiedplmgclacaaProg.lean LOADS. Nothing in Lean hashes anything: it is a label: what it is worth is what the hold of that sum in a sandbox is worth. -/
noncomputable def Try.pinned : Pinned := { name := "ytdiedplmgclacaa", sum := "1eb32f4b69a92b0eab649b320af0b020335391a146f3c83a91941d78a3ca13ef", checked := Try.checked }
namespace Rows
def none {H : Type} : Left H := { results := [], args := [] }

/-- 'scriptoriumlaw1.IntsSums': WHATEVER THE INPUT: true; the input reads as it did. -/
def intsSumsSpec : ChangeSpec := { name := "intsSums", fn := fun _ => fun
  | [d1, d2] => { results := [.lit (.bool true)], args := [d1, d2] }
  | _ => none }
def intsSumsRow : OpenClaim := { program := "ytdiedplmgclacaa", sum := "1eb32f4b69a92b0eab649b320af0b020335391a146f3c83a91941d78a3ca13ef", func := "scriptorium/scriptoriumlaw1.IntsSums", spec := "intsSums", apart := false }
def IntsSumsSaid : Prop := intsSumsRow.holds Try.pinned (OpenSpec.ofChange intsSumsSpec)

/-- ITS FALSE NEIGHBOUR: 'it returns false'. Refute it at one input. -/
def intsSumsWrong : ChangeSpec := { name := "intsSums", fn := fun _ => fun
  | [d1, d2] => { results := [.lit (.bool false)], args := [d1, d2] }
  | _ => none }
def IntsSumsWrongFalsely : Prop := intsSumsRow.holds Try.pinned (OpenSpec.ofChange intsSumsWrong)

/-- 'scriptoriumlaw1.IntsParts': WHATEVER THE INPUT: true; the input reads as it did. -/
def intsPartsSpec : ChangeSpec := { name := "intsParts", fn := fun _ => fun
  | [d1, d2] => { results := [.lit (.bool true)], args := [d1, d2] }
  | _ => none }
def intsPartsRow : OpenClaim := { program := "ytdiedplmgclacaa", sum := "1eb32f4b69a92b0eab649b320af0b020335391a146f3c83a91941d78a3ca13ef", func := "scriptorium/scriptoriumlaw1.IntsParts", spec := "intsParts", apart := false }
def IntsPartsSaid : Prop := intsPartsRow.holds Try.pinned (OpenSpec.ofChange intsPartsSpec)

/-- ITS FALSE NEIGHBOUR: 'it returns false'. Refute it at one input. -/
def intsPartsWrong : ChangeSpec := { name := "intsParts", fn := fun _ => fun
  | [d1, d2] => { results := [.lit (.bool false)], args := [d1, d2] }
  | _ => none }
def IntsPartsWrongFalsely : Prop := intsPartsRow.holds Try.pinned (OpenSpec.ofChange intsPartsWrong)

/-- 'scriptoriumlaw1.IntsOrder': WHATEVER THE INPUT: true; the input reads as it did. -/
def intsOrderSpec : ChangeSpec := { name := "intsOrder", fn := fun _ => fun
  | [d1, d2] => { results := [.lit (.bool true)], args := [d1, d2] }
  | _ => none }
def intsOrderRow : OpenClaim := { program := "ytdiedplmgclacaa", sum := "1eb32f4b69a92b0eab649b320af0b020335391a146f3c83a91941d78a3ca13ef", func := "scriptorium/scriptoriumlaw1.IntsOrder", spec := "intsOrder", apart := false }
def IntsOrderSaid : Prop := intsOrderRow.holds Try.pinned (OpenSpec.ofChange intsOrderSpec)

/-- ITS FALSE NEIGHBOUR: 'it returns false'. Refute it at one input. -/
def intsOrderWrong : ChangeSpec := { name := "intsOrder", fn := fun _ => fun
  | [d1, d2] => { results := [.lit (.bool false)], args := [d1, d2] }
  | _ => none }
def IntsOrderWrongFalsely : Prop := intsOrderRow.holds Try.pinned (OpenSpec.ofChange intsOrderWrong)

/-- 'scriptoriumlaw1.IntsFloors': WHATEVER THE INPUT: true; the input reads as it did. -/
def intsFloorsSpec : ChangeSpec := { name := "intsFloors", fn := fun _ => fun
  | [d1, d2] => { results := [.lit (.bool true)], args := [d1, d2] }
  | _ => none }
def intsFloorsRow : OpenClaim := { program := "ytdiedplmgclacaa", sum := "1eb32f4b69a92b0eab649b320af0b020335391a146f3c83a91941d78a3ca13ef", func := "scriptorium/scriptoriumlaw1.IntsFloors", spec := "intsFloors", apart := false }
def IntsFloorsSaid : Prop := intsFloorsRow.holds Try.pinned (OpenSpec.ofChange intsFloorsSpec)

/-- ITS FALSE NEIGHBOUR: 'it returns false'. Refute it at one input. -/
def intsFloorsWrong : ChangeSpec := { name := "intsFloors", fn := fun _ => fun
  | [d1, d2] => { results := [.lit (.bool false)], args := [d1, d2] }
  | _ => none }
def IntsFloorsWrongFalsely : Prop := intsFloorsRow.holds Try.pinned (OpenSpec.ofChange intsFloorsWrong)

/- THE SECOND FORM. 'bulk': how many values and letters a reading holds, each counted each time it is reached (what is shared counts as often as it is met; a slice's spare places count too). A statement '..UptoSaid' is the law's where the arguments, and the package variables that the reading takes, are together of bulk at most 1048576: NARROWER than '..Said'. Prove '..Said' where nothing that the law and all that it calls make is longer than what came in: it says more and counts as full. Else prove '..UptoSaid'. A law counts once. -/
mutual
def uptoBulk {H : Type} : DataW H → Nat
  | .lit (.string bytes) => bytes.length + 1
  | .lit _ => 1
  | .nil => 1
  | .ptr d => uptoBulk d + 1
  | .slice elems spare => uptoBulkAll elems + uptoBulkAll spare + 1
  | .agg parts => uptoBulkAll parts + 1
  | .iface _ d => uptoBulk d + 1
  | .map entries => uptoBulkEntries entries + 1
  | .held _ => 1
def uptoBulkAll {H : Type} : List (DataW H) → Nat
  | [] => 0
  | d :: r => uptoBulk d + uptoBulkAll r
def uptoBulkEntries {H : Type} : List (Lit × DataW H) → Nat
  | [] => 0
  | x :: r => uptoBulkEntry x + uptoBulkEntries r
def uptoBulkEntry {H : Type} : Lit × DataW H → Nat
  | (.string bytes, d) => bytes.length + uptoBulk d + 1
  | (_, d) => uptoBulk d + 1
 end
def uptoSmall : (H : Type) → List (DataW H) → Bool := fun _ ds => decide (uptoBulkAll ds ≤ 1048576)
def OpenSpec.upto (s : _root_.Go.ChangeSpec) : _root_.Go.OpenSpec := { _root_.Go.OpenSpec.ofChange s with cond := some uptoSmall }

/-- 'scriptoriumlaw1.IntsSums', WHERE WHAT IT READS IS OF BULK AT MOST 1048576: true; the input reads as it did. -/
def intsSumsUptoRow : OpenClaim := { program := "ytdiedplmgclacaa", sum := "1eb32f4b69a92b0eab649b320af0b020335391a146f3c83a91941d78a3ca13ef", func := "scriptorium/scriptoriumlaw1.IntsSums", spec := "intsSums", apart := false, narrowed := true }
def IntsSumsUptoSaid : Prop := intsSumsUptoRow.holds Try.pinned (OpenSpec.upto intsSumsSpec)

/-- 'scriptoriumlaw1.IntsParts', WHERE WHAT IT READS IS OF BULK AT MOST 1048576: true; the input reads as it did. -/
def intsPartsUptoRow : OpenClaim := { program := "ytdiedplmgclacaa", sum := "1eb32f4b69a92b0eab649b320af0b020335391a146f3c83a91941d78a3ca13ef", func := "scriptorium/scriptoriumlaw1.IntsParts", spec := "intsParts", apart := false, narrowed := true }
def IntsPartsUptoSaid : Prop := intsPartsUptoRow.holds Try.pinned (OpenSpec.upto intsPartsSpec)

/-- 'scriptoriumlaw1.IntsOrder', WHERE WHAT IT READS IS OF BULK AT MOST 1048576: true; the input reads as it did. -/
def intsOrderUptoRow : OpenClaim := { program := "ytdiedplmgclacaa", sum := "1eb32f4b69a92b0eab649b320af0b020335391a146f3c83a91941d78a3ca13ef", func := "scriptorium/scriptoriumlaw1.IntsOrder", spec := "intsOrder", apart := false, narrowed := true }
def IntsOrderUptoSaid : Prop := intsOrderUptoRow.holds Try.pinned (OpenSpec.upto intsOrderSpec)

/-- 'scriptoriumlaw1.IntsFloors', WHERE WHAT IT READS IS OF BULK AT MOST 1048576: true; the input reads as it did. -/
def intsFloorsUptoRow : OpenClaim := { program := "ytdiedplmgclacaa", sum := "1eb32f4b69a92b0eab649b320af0b020335391a146f3c83a91941d78a3ca13ef", func := "scriptorium/scriptoriumlaw1.IntsFloors", spec := "intsFloors", apart := false, narrowed := true }
def IntsFloorsUptoSaid : Prop := intsFloorsUptoRow.holds Try.pinned (OpenSpec.upto intsFloorsSpec)

end Rows
end Go.Proofs.Ytdiedplmgclacaa
