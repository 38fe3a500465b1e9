/-
  No cell of these rows narrows 'for every input' (looked for: loops, veiled, ifaces, maps, wideKeys, modest, calm, conditions, laid).
  DERIVED. THE GIVEN ROWS OF THIS SEAT. 5 by the template 'for every input the law returns true; each argument reads behind the call as it read before'; 0 by the template 'total and deterministic' (their statements: YtclfjkleijkekaaTotals.lean).
  GIVEN WITH THE SEED: the statements are not yours to turn. If you find one false, say at which input.
  Laid BY PROGRAM, IN A SANDBOX (cutbox-rows.mjs): the forced cells as the released guide's own fill.sh prints them over the translation 4f9487ae528385e1… (all of the seat's roots in one cut). By AI agents, Wed Nov 11 2026. No macro, syntax, notation, axiom, sorry.
-/
import Derived.Test.YtclfjkleijkekaaChecked
import GoSem.Claim
import GoSem.ClaimJoined
import GoSem.ClaimMapViews
import Derived.JoinedTies
import Derived.KernelRfl
namespace Go.Proofs.Ytclfjkleijkekaa
/- THE CELL 'sum', in the pinned program and in every row, IS THE sha256 OF THE DUMP (.gsa) THAT YtclfjkleijkekaaProg.lean LOADS. Nothing in Lean hashes anything: it is a label: what it is worth is what the hold of that sum in a sandbox is worth. -/
noncomputable def Try.pinned : Pinned := { name := "ytclfjkleijkekaa", sum := "4f9487ae528385e1fcf5a5e397afcb9e2c43f7c3284cc6d645639cb3dc1da50d", checked := Try.checked }
namespace Rows
def none {H : Type} : Left H := { results := [], args := [] }

/-- 'scriptoriumlaw17.ScopeChecks': WHATEVER THE INPUT: true; the input reads as it did. -/
def scopeChecksSpec : ChangeSpec := { name := "scopeChecks", fn := fun _ => fun
  | [d1, d2] => { results := [.lit (.bool true)], args := [d1, d2] }
  | _ => none }
def scopeChecksRow : OpenClaim := { program := "ytclfjkleijkekaa", sum := "4f9487ae528385e1fcf5a5e397afcb9e2c43f7c3284cc6d645639cb3dc1da50d", func := "scriptorium/scriptoriumlaw17.ScopeChecks", spec := "scopeChecks", recurses := true, apart := false }
def ScopeChecksSaid : Prop := scopeChecksRow.holds Try.pinned (OpenSpec.ofChange scopeChecksSpec)

/-- ITS FALSE NEIGHBOUR: 'it returns false'. Refute it at one input. -/
def scopeChecksWrong : ChangeSpec := { name := "scopeChecks", fn := fun _ => fun
  | [d1, d2] => { results := [.lit (.bool false)], args := [d1, d2] }
  | _ => none }
def ScopeChecksWrongFalsely : Prop := scopeChecksRow.holds Try.pinned (OpenSpec.ofChange scopeChecksWrong)

/-- 'scriptoriumlaw17.ScopeOuter': WHATEVER THE INPUT: true; the input reads as it did. -/
def scopeOuterSpec : ChangeSpec := { name := "scopeOuter", fn := fun _ => fun
  | [d] => { results := [.lit (.bool true)], args := [d] }
  | _ => none }
def scopeOuterRow : OpenClaim := { program := "ytclfjkleijkekaa", sum := "4f9487ae528385e1fcf5a5e397afcb9e2c43f7c3284cc6d645639cb3dc1da50d", func := "scriptorium/scriptoriumlaw17.ScopeOuter", spec := "scopeOuter", recurses := true, apart := false }
def ScopeOuterSaid : Prop := scopeOuterRow.holds Try.pinned (OpenSpec.ofChange scopeOuterSpec)

/-- ITS FALSE NEIGHBOUR: 'it returns false'. Refute it at one input. -/
def scopeOuterWrong : ChangeSpec := { name := "scopeOuter", fn := fun _ => fun
  | [d] => { results := [.lit (.bool false)], args := [d] }
  | _ => none }
def ScopeOuterWrongFalsely : Prop := scopeOuterRow.holds Try.pinned (OpenSpec.ofChange scopeOuterWrong)

/-- 'scriptoriumlaw17.ScopeMany': WHATEVER THE INPUT: true; the input reads as it did. -/
def scopeManySpec : ChangeSpec := { name := "scopeMany", fn := fun _ => fun
  | [d1, d2, d3] => { results := [.lit (.bool true)], args := [d1, d2, d3] }
  | _ => none }
def scopeManyRow : OpenClaim := { program := "ytclfjkleijkekaa", sum := "4f9487ae528385e1fcf5a5e397afcb9e2c43f7c3284cc6d645639cb3dc1da50d", func := "scriptorium/scriptoriumlaw17.ScopeMany", spec := "scopeMany", recurses := true, apart := false }
def ScopeManySaid : Prop := scopeManyRow.holds Try.pinned (OpenSpec.ofChange scopeManySpec)

/-- ITS FALSE NEIGHBOUR: 'it returns false'. Refute it at one input. -/
def scopeManyWrong : ChangeSpec := { name := "scopeMany", fn := fun _ => fun
  | [d1, d2, d3] => { results := [.lit (.bool false)], args := [d1, d2, d3] }
  | _ => none }
def ScopeManyWrongFalsely : Prop := scopeManyRow.holds Try.pinned (OpenSpec.ofChange scopeManyWrong)

/-- 'scriptoriumlaw17.ScopeKnown': WHATEVER THE INPUT: true; the input reads as it did. -/
def scopeKnownSpec : ChangeSpec := { name := "scopeKnown", fn := fun _ => fun
  | [d] => { results := [.lit (.bool true)], args := [d] }
  | _ => none }
def scopeKnownRow : OpenClaim := { program := "ytclfjkleijkekaa", sum := "4f9487ae528385e1fcf5a5e397afcb9e2c43f7c3284cc6d645639cb3dc1da50d", func := "scriptorium/scriptoriumlaw17.ScopeKnown", spec := "scopeKnown", recurses := true, apart := false }
def ScopeKnownSaid : Prop := scopeKnownRow.holds Try.pinned (OpenSpec.ofChange scopeKnownSpec)

/-- ITS FALSE NEIGHBOUR: 'it returns false'. Refute it at one input. -/
def scopeKnownWrong : ChangeSpec := { name := "scopeKnown", fn := fun _ => fun
  | [d] => { results := [.lit (.bool false)], args := [d] }
  | _ => none }
def ScopeKnownWrongFalsely : Prop := scopeKnownRow.holds Try.pinned (OpenSpec.ofChange scopeKnownWrong)

/-- 'scriptoriumlaw17.ScopeShadows': WHATEVER THE INPUT: true; the input reads as it did. -/
def scopeShadowsSpec : ChangeSpec := { name := "scopeShadows", fn := fun _ => fun
  | [d1, d2] => { results := [.lit (.bool true)], args := [d1, d2] }
  | _ => none }
def scopeShadowsRow : OpenClaim := { program := "ytclfjkleijkekaa", sum := "4f9487ae528385e1fcf5a5e397afcb9e2c43f7c3284cc6d645639cb3dc1da50d", func := "scriptorium/scriptoriumlaw17.ScopeShadows", spec := "scopeShadows", recurses := true, apart := false }
def ScopeShadowsSaid : Prop := scopeShadowsRow.holds Try.pinned (OpenSpec.ofChange scopeShadowsSpec)

/-- ITS FALSE NEIGHBOUR: 'it returns false'. Refute it at one input. -/
def scopeShadowsWrong : ChangeSpec := { name := "scopeShadows", fn := fun _ => fun
  | [d1, d2] => { results := [.lit (.bool false)], args := [d1, d2] }
  | _ => none }
def ScopeShadowsWrongFalsely : Prop := scopeShadowsRow.holds Try.pinned (OpenSpec.ofChange scopeShadowsWrong)

/- THE SECOND FORM. 'bulk': how many values and letters a reading holds, each counted each time it is reached (what is shared counts as often as it is met; a slice's spare places count too). A statement '..UptoSaid' is the law's where the arguments, and the package variables that the reading takes, are together of bulk at most 1048576: NARROWER than '..Said'. Prove '..Said' where nothing that the law and all that it calls make is longer than what came in: it says more and counts as full. Else prove '..UptoSaid'. A law counts once. -/
mutual
def uptoBulk {H : Type} : DataW H → Nat
  | .lit (.string bytes) => bytes.length + 1
  | .lit _ => 1
  | .nil => 1
  | .ptr d => uptoBulk d + 1
  | .slice elems spare => uptoBulkAll elems + uptoBulkAll spare + 1
  | .agg parts => uptoBulkAll parts + 1
  | .iface _ d => uptoBulk d + 1
  | .map entries => uptoBulkEntries entries + 1
  | .held _ => 1
def uptoBulkAll {H : Type} : List (DataW H) → Nat
  | [] => 0
  | d :: r => uptoBulk d + uptoBulkAll r
def uptoBulkEntries {H : Type} : List (Lit × DataW H) → Nat
  | [] => 0
  | x :: r => uptoBulkEntry x + uptoBulkEntries r
def uptoBulkEntry {H : Type} : Lit × DataW H → Nat
  | (.string bytes, d) => bytes.length + uptoBulk d + 1
  | (_, d) => uptoBulk d + 1
 end
def uptoSmall : (H : Type) → List (DataW H) → Bool := fun _ ds => decide (uptoBulkAll ds ≤ 1048576)
def OpenSpec.upto (s : _root_.Go.ChangeSpec) : _root_.Go.OpenSpec := { _root_.Go.OpenSpec.ofChange s with cond := some uptoSmall }

/-- 'scriptoriumlaw17.ScopeChecks', WHERE WHAT IT READS IS OF BULK AT MOST 1048576: true; the input reads as it did. -/
def scopeChecksUptoRow : OpenClaim := { program := "ytclfjkleijkekaa", sum := "4f9487ae528385e1fcf5a5e397afcb9e2c43f7c3284cc6d645639cb3dc1da50d", func := "scriptorium/scriptoriumlaw17.ScopeChecks", spec := "scopeChecks", recurses := true, apart := false, narrowed := true }
def ScopeChecksUptoSaid : Prop := scopeChecksUptoRow.holds Try.pinned (OpenSpec.upto scopeChecksSpec)

/-- 'scriptoriumlaw17.ScopeOuter', WHERE WHAT IT READS IS OF BULK AT MOST 1048576: true; the input reads as it did. -/
def scopeOuterUptoRow : OpenClaim := { program := "ytclfjkleijkekaa", sum := "4f9487ae528385e1fcf5a5e397afcb9e2c43f7c3284cc6d645639cb3dc1da50d", func := "scriptorium/scriptoriumlaw17.ScopeOuter", spec := "scopeOuter", recurses := true, apart := false, narrowed := true }
def ScopeOuterUptoSaid : Prop := scopeOuterUptoRow.holds Try.pinned (OpenSpec.upto scopeOuterSpec)

/-- 'scriptoriumlaw17.ScopeMany', WHERE WHAT IT READS IS OF BULK AT MOST 1048576: true; the input reads as it did. -/
def scopeManyUptoRow : OpenClaim := { program := "ytclfjkleijkekaa", sum := "4f9487ae528385e1fcf5a5e397afcb9e2c43f7c3284cc6d645639cb3dc1da50d", func := "scriptorium/scriptoriumlaw17.ScopeMany", spec := "scopeMany", recurses := true, apart := false, narrowed := true }
def ScopeManyUptoSaid : Prop := scopeManyUptoRow.holds Try.pinned (OpenSpec.upto scopeManySpec)

/-- 'scriptoriumlaw17.ScopeKnown', WHERE WHAT IT READS IS OF BULK AT MOST 1048576: true; the input reads as it did. -/
def scopeKnownUptoRow : OpenClaim := { program := "ytclfjkleijkekaa", sum := "4f9487ae528385e1fcf5a5e397afcb9e2c43f7c3284cc6d645639cb3dc1da50d", func := "scriptorium/scriptoriumlaw17.ScopeKnown", spec := "scopeKnown", recurses := true, apart := false, narrowed := true }
def ScopeKnownUptoSaid : Prop := scopeKnownUptoRow.holds Try.pinned (OpenSpec.upto scopeKnownSpec)

/-- 'scriptoriumlaw17.ScopeShadows', WHERE WHAT IT READS IS OF BULK AT MOST 1048576: true; the input reads as it did. -/
def scopeShadowsUptoRow : OpenClaim := { program := "ytclfjkleijkekaa", sum := "4f9487ae528385e1fcf5a5e397afcb9e2c43f7c3284cc6d645639cb3dc1da50d", func := "scriptorium/scriptoriumlaw17.ScopeShadows", spec := "scopeShadows", recurses := true, apart := false, narrowed := true }
def ScopeShadowsUptoSaid : Prop := scopeShadowsUptoRow.holds Try.pinned (OpenSpec.upto scopeShadowsSpec)

end Rows
end Go.Proofs.Ytclfjkleijkekaa
