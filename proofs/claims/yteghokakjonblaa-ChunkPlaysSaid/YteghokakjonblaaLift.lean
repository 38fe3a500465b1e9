/- The ends of the laws' rows: what a law's call leaves where everything below the old heap is as it was; a slice of bytes among the arguments, opened. -/
import Derived.Test.YteghokakjonblaaBytes
import Derived.Test.YteghokakjonblaaLiftB
import Derived.ProofKit
import Derived.OpenShut
import Derived.Carry
namespace Go.Proofs.Yteghokakjonblaa
open Go.ChangeShapes Go.WideShapes Go.ChangeAt Go.RowKit Go.ChangeMaps

theorem cells8 : Try.prog.cellsOf 5 = 1 := by kernel_rfl
set_option maxRecDepth 20000 in
theorem open_bytes {H : Type} {enc : TypeId × Value → H} {w : World} {v : Value} {d : DataW H} {ps : List MemPlace} {r : Reach} {b0 : Nat} (hv : Value.okWide Try.prog w r b0 37 v)
    (h : DataW.Trod enc Try.prog w 0 (fun _ => true) true 37 v d ps) :
    ∃ (A : Option Addr) (l : List UInt8) (c : Nat), v = .slice A l.length c ∧ (A = none → c = 0) ∧ l.length ≤ c ∧ c ≤ maxLen ∧ Bs w w.heap.size A l := by
  obtain ⟨fuel, hf⟩ := h
  have hc : v.cells.toList = [v] := by
    obtain ⟨a, n, c, rfl⟩ := okWide_slice Try.underlying37 hv
    rfl
  rcases open_ints Try.underlying37 Try.underlying5 cells8 hf with ⟨h0, _⟩ | ⟨a, len, cap, zs, h0, _, hl, hm, hz, _, hcell, hwf⟩
  · have e : v = .slice none 0 0 := by rw [hc] at h0; simpa using h0
    exact ⟨none, [], 0, e, fun _ => rfl, Nat.zero_le _, Nat.zero_le _, Bs.empty⟩
  · have e : v = .slice (some a) len cap := by rw [hc] at h0; simpa using h0
    have hz' : zs.length = cap := by simpa using hz
    refine ⟨some a, (zs.take len).map fun n => UInt8.ofNat n.toNat, cap, by rw [e]; simp; omega, (fun e => nomatch e), by simp; omega, hm, fun i hi => ?_⟩
    have hi' : i < zs.length := by simp at hi; omega
    have k := hcell i hi'
    refine ⟨a, rfl, ?_, ?_⟩
    · have := cell_lt k
      rw [add_block] at this
      exact this
    · rw [k]
      have q := hwf (zs.getD i 0) (by simp [List.getD, hi'])
      have q' := bounds_u8 q
      have e2 : ((zs.take len).map fun n => UInt8.ofNat n.toNat)[i] = UInt8.ofNat (zs.getD i 0).toNat := by
        simp [List.getD, hi']
      rw [e2]
      have : (zs.getD i 0).toNat < 256 := by omega
      rw [UInt8.toNat_ofNat_of_lt' (by simpa using this)]
      congr 2
      omega
end Go.Proofs.Yteghokakjonblaa
