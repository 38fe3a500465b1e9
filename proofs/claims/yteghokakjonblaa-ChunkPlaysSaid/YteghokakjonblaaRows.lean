/-
  No cell of these rows narrows 'for every input' (looked for: loops, veiled, ifaces, maps, wideKeys, modest, calm, conditions, laid).
  DERIVED. THE GIVEN ROWS OF THIS SEAT. 4 by the template 'for every input the law returns true; each argument reads behind the call as it read before'; 0 by the template 'total and deterministic' (their statements: YteghokakjonblaaTotals.lean).
  GIVEN WITH THE SEED: the statements are not yours to turn. If you find one false, say at which input.
  Laid BY PROGRAM, IN A SANDBOX (cutbox-rows.mjs): the forced cells as the released guide's own fill.sh prints them over the translation 2b741a4248dc6dd0… (all of the seat's roots in one cut). By AI agents, Wed Nov 11 2026. No macro, syntax, notation, axiom, sorry.
-/
import Derived.Test.YteghokakjonblaaChecked
import GoSem.Claim
import GoSem.ClaimJoined
import GoSem.ClaimMapViews
import Derived.JoinedTies
import Derived.KernelRfl
namespace Go.Proofs.Yteghokakjonblaa
/- THE CELL 'sum', in the pinned program and in every row, IS THE sha256 OF THE DUMP (.gsa) THAT YteghokakjonblaaProg.lean LOADS. Nothing in Lean hashes anything: it is a label: what it is worth is what the hold of that sum in a sandbox is worth. -/
noncomputable def Try.pinned : Pinned := { name := "yteghokakjonblaa", sum := "2b741a4248dc6dd0e5ce00ef46665bf078a8b8dd41a56e1601ae994e95f033be", checked := Try.checked }
namespace Rows
def none {H : Type} : Left H := { results := [], args := [] }

/-- 'scriptoriumlaw7.ChunkPlays': WHATEVER THE INPUT: true; the input reads as it did. -/
def chunkPlaysSpec : ChangeSpec := { name := "chunkPlays", fn := fun _ => fun
  | [d1, d2] => { results := [.lit (.bool true)], args := [d1, d2] }
  | _ => none }
def chunkPlaysRow : OpenClaim := { program := "yteghokakjonblaa", sum := "2b741a4248dc6dd0e5ce00ef46665bf078a8b8dd41a56e1601ae994e95f033be", func := "scriptorium/scriptoriumlaw7.ChunkPlays", spec := "chunkPlays", inPlace := ["slices.overlaps[[]string]", "slices.overlaps[string]"], apart := false }
def ChunkPlaysSaid : Prop := chunkPlaysRow.holds Try.pinned (OpenSpec.ofChange chunkPlaysSpec)

/-- ITS FALSE NEIGHBOUR: 'it returns false'. Refute it at one input. -/
def chunkPlaysWrong : ChangeSpec := { name := "chunkPlays", fn := fun _ => fun
  | [d1, d2] => { results := [.lit (.bool false)], args := [d1, d2] }
  | _ => none }
def ChunkPlaysWrongFalsely : Prop := chunkPlaysRow.holds Try.pinned (OpenSpec.ofChange chunkPlaysWrong)

/-- 'scriptoriumlaw7.ChunkThrough': WHATEVER THE INPUT: true; the input reads as it did. -/
def chunkThroughSpec : ChangeSpec := { name := "chunkThrough", fn := fun _ => fun
  | [d1, d2, d3] => { results := [.lit (.bool true)], args := [d1, d2, d3] }
  | _ => none }
def chunkThroughRow : OpenClaim := { program := "yteghokakjonblaa", sum := "2b741a4248dc6dd0e5ce00ef46665bf078a8b8dd41a56e1601ae994e95f033be", func := "scriptorium/scriptoriumlaw7.ChunkThrough", spec := "chunkThrough", inPlace := ["slices.overlaps[[]string]", "slices.overlaps[string]"], unfollowed := true, recurses := true, apart := false }
def ChunkThroughSaid : Prop := chunkThroughRow.holds Try.pinned (OpenSpec.ofChange chunkThroughSpec)

/-- ITS FALSE NEIGHBOUR: 'it returns false'. Refute it at one input. -/
def chunkThroughWrong : ChangeSpec := { name := "chunkThrough", fn := fun _ => fun
  | [d1, d2, d3] => { results := [.lit (.bool false)], args := [d1, d2, d3] }
  | _ => none }
def ChunkThroughWrongFalsely : Prop := chunkThroughRow.holds Try.pinned (OpenSpec.ofChange chunkThroughWrong)

/-- 'scriptoriumlaw7.ChunkParts': WHATEVER THE INPUT: true; the input reads as it did. -/
def chunkPartsSpec : ChangeSpec := { name := "chunkParts", fn := fun _ => fun
  | [d1, d2, d3, d4] => { results := [.lit (.bool true)], args := [d1, d2, d3, d4] }
  | _ => none }
def chunkPartsRow : OpenClaim := { program := "yteghokakjonblaa", sum := "2b741a4248dc6dd0e5ce00ef46665bf078a8b8dd41a56e1601ae994e95f033be", func := "scriptorium/scriptoriumlaw7.ChunkParts", spec := "chunkParts", inPlace := ["slices.overlaps[[]string]", "slices.overlaps[string]"], apart := false }
def ChunkPartsSaid : Prop := chunkPartsRow.holds Try.pinned (OpenSpec.ofChange chunkPartsSpec)

/-- ITS FALSE NEIGHBOUR: 'it returns false'. Refute it at one input. -/
def chunkPartsWrong : ChangeSpec := { name := "chunkParts", fn := fun _ => fun
  | [d1, d2, d3, d4] => { results := [.lit (.bool false)], args := [d1, d2, d3, d4] }
  | _ => none }
def ChunkPartsWrongFalsely : Prop := chunkPartsRow.holds Try.pinned (OpenSpec.ofChange chunkPartsWrong)

/-- 'scriptoriumlaw7.ChunkSame': WHATEVER THE INPUT: true; the input reads as it did. -/
def chunkSameSpec : ChangeSpec := { name := "chunkSame", fn := fun _ => fun
  | [d1, d2] => { results := [.lit (.bool true)], args := [d1, d2] }
  | _ => none }
def chunkSameRow : OpenClaim := { program := "yteghokakjonblaa", sum := "2b741a4248dc6dd0e5ce00ef46665bf078a8b8dd41a56e1601ae994e95f033be", func := "scriptorium/scriptoriumlaw7.ChunkSame", spec := "chunkSame", inPlace := ["slices.overlaps[[]string]", "slices.overlaps[string]"], apart := false }
def ChunkSameSaid : Prop := chunkSameRow.holds Try.pinned (OpenSpec.ofChange chunkSameSpec)

/-- ITS FALSE NEIGHBOUR: 'it returns false'. Refute it at one input. -/
def chunkSameWrong : ChangeSpec := { name := "chunkSame", fn := fun _ => fun
  | [d1, d2] => { results := [.lit (.bool false)], args := [d1, d2] }
  | _ => none }
def ChunkSameWrongFalsely : Prop := chunkSameRow.holds Try.pinned (OpenSpec.ofChange chunkSameWrong)

/- THE SECOND FORM. 'bulk': how many values and letters a reading holds, each counted each time it is reached (what is shared counts as often as it is met; a slice's spare places count too). A statement '..UptoSaid' is the law's where the arguments, and the package variables that the reading takes, are together of bulk at most 1048576: NARROWER than '..Said'. Prove '..Said' where nothing that the law and all that it calls make is longer than what came in: it says more and counts as full. Else prove '..UptoSaid'. A law counts once. -/
mutual
def uptoBulk {H : Type} : DataW H → Nat
  | .lit (.string bytes) => bytes.length + 1
  | .lit _ => 1
  | .nil => 1
  | .ptr d => uptoBulk d + 1
  | .slice elems spare => uptoBulkAll elems + uptoBulkAll spare + 1
  | .agg parts => uptoBulkAll parts + 1
  | .iface _ d => uptoBulk d + 1
  | .map entries => uptoBulkEntries entries + 1
  | .held _ => 1
def uptoBulkAll {H : Type} : List (DataW H) → Nat
  | [] => 0
  | d :: r => uptoBulk d + uptoBulkAll r
def uptoBulkEntries {H : Type} : List (Lit × DataW H) → Nat
  | [] => 0
  | x :: r => uptoBulkEntry x + uptoBulkEntries r
def uptoBulkEntry {H : Type} : Lit × DataW H → Nat
  | (.string bytes, d) => bytes.length + uptoBulk d + 1
  | (_, d) => uptoBulk d + 1
 end
def uptoSmall : (H : Type) → List (DataW H) → Bool := fun _ ds => decide (uptoBulkAll ds ≤ 1048576)
def OpenSpec.upto (s : _root_.Go.ChangeSpec) : _root_.Go.OpenSpec := { _root_.Go.OpenSpec.ofChange s with cond := some uptoSmall }

/-- 'scriptoriumlaw7.ChunkPlays', WHERE WHAT IT READS IS OF BULK AT MOST 1048576: true; the input reads as it did. -/
def chunkPlaysUptoRow : OpenClaim := { program := "yteghokakjonblaa", sum := "2b741a4248dc6dd0e5ce00ef46665bf078a8b8dd41a56e1601ae994e95f033be", func := "scriptorium/scriptoriumlaw7.ChunkPlays", spec := "chunkPlays", inPlace := ["slices.overlaps[[]string]", "slices.overlaps[string]"], apart := false, narrowed := true }
def ChunkPlaysUptoSaid : Prop := chunkPlaysUptoRow.holds Try.pinned (OpenSpec.upto chunkPlaysSpec)

/-- 'scriptoriumlaw7.ChunkThrough', WHERE WHAT IT READS IS OF BULK AT MOST 1048576: true; the input reads as it did. -/
def chunkThroughUptoRow : OpenClaim := { program := "yteghokakjonblaa", sum := "2b741a4248dc6dd0e5ce00ef46665bf078a8b8dd41a56e1601ae994e95f033be", func := "scriptorium/scriptoriumlaw7.ChunkThrough", spec := "chunkThrough", inPlace := ["slices.overlaps[[]string]", "slices.overlaps[string]"], unfollowed := true, recurses := true, apart := false, narrowed := true }
def ChunkThroughUptoSaid : Prop := chunkThroughUptoRow.holds Try.pinned (OpenSpec.upto chunkThroughSpec)

/-- 'scriptoriumlaw7.ChunkParts', WHERE WHAT IT READS IS OF BULK AT MOST 1048576: true; the input reads as it did. -/
def chunkPartsUptoRow : OpenClaim := { program := "yteghokakjonblaa", sum := "2b741a4248dc6dd0e5ce00ef46665bf078a8b8dd41a56e1601ae994e95f033be", func := "scriptorium/scriptoriumlaw7.ChunkParts", spec := "chunkParts", inPlace := ["slices.overlaps[[]string]", "slices.overlaps[string]"], apart := false, narrowed := true }
def ChunkPartsUptoSaid : Prop := chunkPartsUptoRow.holds Try.pinned (OpenSpec.upto chunkPartsSpec)

/-- 'scriptoriumlaw7.ChunkSame', WHERE WHAT IT READS IS OF BULK AT MOST 1048576: true; the input reads as it did. -/
def chunkSameUptoRow : OpenClaim := { program := "yteghokakjonblaa", sum := "2b741a4248dc6dd0e5ce00ef46665bf078a8b8dd41a56e1601ae994e95f033be", func := "scriptorium/scriptoriumlaw7.ChunkSame", spec := "chunkSame", inPlace := ["slices.overlaps[[]string]", "slices.overlaps[string]"], apart := false, narrowed := true }
def ChunkSameUptoSaid : Prop := chunkSameUptoRow.holds Try.pinned (OpenSpec.upto chunkSameSpec)

end Rows
end Go.Proofs.Yteghokakjonblaa
