/- A text turned into bytes: a block of the walk's own. -/
import Derived.Test.YteghokakjonblaaBytes
import Derived.Lib.ConvBytes
namespace Go.Proofs.Yteghokakjonblaa
open Go.RowKit
set_option linter.unusedVariables false

theorem conv_str (w : World) (s : ByteArray) : ∃ (W : World) (c : Nat), (convert 9 37 (.string s)).run Try.prog w = .ok (.slice (some ⟨w.heap.size, 0, none⟩) s.size c) W ∧ Below w.heap.size w W ∧ s.size ≤ c ∧ Bs W W.heap.size (some ⟨w.heap.size, 0, none⟩) s.data.toList := by
  refine ⟨Lib.bytesWorld w 5 s, _, Lib.run_convert_string_bytes w 9 37 5 s Try.underlying9 Try.underlying37 Try.underlying5, ⟨rfl, rfl, rfl, ?_, fun k hk => Lib.bytesWorld_at_old w _ s k hk⟩, ?_, fun i hi => ⟨_, rfl, ?_, ?_⟩⟩
  · rw [Lib.bytesWorld_size]; exact Nat.le_succ _
  · exact grownCap_ge w s.size 0 5
  · rw [Lib.bytesWorld_size]; exact Nat.lt_succ_self _
  · have e : (⟨w.heap.size, 0, none⟩ : Addr).add i = ⟨w.heap.size, i, none⟩ := by
      unfold Addr.add
      split
      · rename_i h; rw [h]
      · simp
    have hs : i < s.size := by simpa using hi
    rw [e, Lib.bytesWorld_cell w _ s i hs]
    simp only [List.getD, List.getElem?_eq_getElem hi, Option.getD_some]
/-- A block of the walk's own whose first cells are the bytes l, and may be written. -/
def OwnF (w : World) (g : Nat) (l : List UInt8) : Prop := g < w.heap.size ∧ ∀ i (h : i < l.length), w.cell? ⟨g, i, none⟩ = some (.int .u8 (l[i].toNat : Int)) ∧ w.frozen? ⟨g, i, none⟩ = false
theorem OwnF.put {w : World} {g : Nat} {l : List UInt8} (h : OwnF w g l) (i : Nat) (hi : i < l.length) (c : UInt8) : OwnF (w.setCell ⟨g, i, none⟩ (.int .u8 (c.toNat : Int))) g (l.set i c) := by
  refine ⟨by rw [World.size_setCell]; exact h.1, fun j hj => ?_⟩
  have hj' : j < l.length := by simpa using hj
  refine ⟨?_, by rw [World.frozen?_setCell]; exact (h.2 j hj').2⟩
  by_cases e : i = j
  · subst e
    rw [World.cell?_setCell_same _ _ _ (h.2 i hi).1]
    simp
  · rw [World.cell?_setCell_other _ _ _ _ (fun k => e (by injection k))]
    rw [(h.2 j hj').1]
    simp [e]
theorem OwnF.reads {w : World} {g : Nat} {l : List UInt8} (h : OwnF w g l) : Bs w w.heap.size (some ⟨g, 0, none⟩) l := fun i hi => by
  refine ⟨_, rfl, h.1, ?_⟩
  have e : (⟨g, 0, none⟩ : Addr).add i = ⟨g, i, none⟩ := by
    unfold Addr.add
    split
    · rename_i h; rw [h]
    · simp
  rw [e]
  exact (h.2 i hi).1
theorem conv_own (w : World) (s : ByteArray) : ∃ (W : World) (c : Nat), (convert 9 37 (.string s)).run Try.prog w = .ok (.slice (some ⟨w.heap.size, 0, none⟩) s.size c) W ∧ Below w.heap.size w W ∧ s.size ≤ c ∧ OwnF W w.heap.size s.data.toList := by
  refine ⟨Lib.bytesWorld w 5 s, _, Lib.run_convert_string_bytes w 9 37 5 s Try.underlying9 Try.underlying37 Try.underlying5, ⟨rfl, rfl, rfl, ?_, fun k hk => Lib.bytesWorld_at_old w _ s k hk⟩, ?_, ?_, fun i hi => ⟨?_, ?_⟩⟩
  · rw [Lib.bytesWorld_size]; exact Nat.le_succ _
  · exact grownCap_ge w s.size 0 5
  · rw [Lib.bytesWorld_size]; exact Nat.lt_succ_self _
  · have hs : i < s.size := by simpa using hi
    rw [Lib.bytesWorld_cell w _ s i hs]
    simp only [List.getD, List.getElem?_eq_getElem hi, Option.getD_some]
  · have hs : i < s.size := by simpa using hi
    have hc : s.size ≤ (Lib.bytesCells w 5 s).size := by
      have := grownCap_ge w s.size 0 5
      simp [Lib.bytesCells]
    simp only [World.frozen?, Lib.bytesWorld_at_new]
    simp
    omega
end Go.Proofs.Yteghokakjonblaa
