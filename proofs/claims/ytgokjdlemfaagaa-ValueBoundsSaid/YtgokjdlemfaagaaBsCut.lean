/- Slices of bytes cut: b[k:], b[:k]. -/
import Derived.Test.YtgokjdlemfaagaaBytes
namespace Go.Proofs.Ytgokjdlemfaagaa
open Go.RowKit
set_option linter.unusedVariables false
theorem bs_from (W : World) (A : Option Addr) (n c k : Nat) (hk : k ≤ n) (hc : n ≤ c) : (Instr.slice 31 (.slice A n c) (some (.int .i64 (k : Int))) none none).run Try.prog W = .ok (.slice (if c = k then A else A.map (·.add k)) (n - k) (c - k)) W := by
  have he : Try.prog.elem 31 = 5 := by kernel_rfl
  have ht : Try.prog.underlying 31 = some (.slice (Try.prog.elem 31)) := by rw [he]; exact Try.underlying31
  have hz : (sizeOf 5).run Try.prog W = .ok 1 W := by kernel_rfl
  rw [run_slice_l W 31 A n c ht .i64 k (by omega) (by omega), he, hz]
  simp [Result.andThen, sliced]
theorem bs_to (W : World) (A : Option Addr) (n c k : Nat) (hk : k ≤ c) : (Instr.slice 31 (.slice A n c) none (some (.int .i64 (k : Int))) none).run Try.prog W = .ok (.slice A k c) W := by
  have he : Try.prog.elem 31 = 5 := by kernel_rfl
  have ht : Try.prog.underlying 31 = some (.slice (Try.prog.elem 31)) := by rw [he]; exact Try.underlying31
  have hz : (sizeOf 5).run Try.prog W = .ok 1 W := by kernel_rfl
  rw [run_slice_h W 31 A n c ht .i64 k (by omega) (by omega), he, hz]
  cases A <;> simp [Result.andThen, sliced, Addr.add]
theorem Bs.behind {w : World} {B c k : Nat} {A : Option Addr} {l : List UInt8} (h : Bs w B A l) (hc : l.length ≤ c) : Bs w B (if c = k then A else A.map (·.add k)) (l.drop k) := by
  intro i hi
  have hi' : k + i < l.length := by rw [List.length_drop] at hi; omega
  obtain ⟨p, rfl, hb, hv⟩ := h (k + i) hi'
  rw [if_neg (by omega)]
  refine ⟨p.add k, rfl, by rw [add_block]; exact hb, ?_⟩
  rw [add_add, hv]
  simp
end Go.Proofs.Ytgokjdlemfaagaa
