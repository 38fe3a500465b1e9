/- Pieces of a slice of bytes, bytes that are garbled: what the walks of stage 3's laws and of package disk share. -/
import Derived.Test.YthclaolmmlgalaaDiskI
import Derived.Deep.RegionHeld3
namespace Go.Proofs.Ythclaolmmlgalaa
open Go.RowKit
set_option linter.unusedVariables false

theorem Bs.rest {w : World} {B : Nat} {A : Option Addr} {l : List UInt8} (h : Bs w B A l) (k c : Nat) (hk : k ≤ l.length) (hc : l.length ≤ c) : Bs w B (if c = k then A else A.map (·.add k)) (l.drop k) := fun i hi => by
  have hi' : k + i < l.length := by rw [List.length_drop] at hi; omega
  obtain ⟨p, rfl, hb, hcell⟩ := h (k + i) hi'
  rw [if_neg (by omega)]
  refine ⟨p.add k, rfl, by rw [add_block]; exact hb, ?_⟩
  rw [add_add, hcell]
  simp
theorem rest_none {A : Option Addr} {c k : Nat} (h : A = none → c = 0) : (if c = k then A else A.map (·.add k)) = none → c - k = 0 := by
  intro e
  split at e
  · omega
  · rw [Option.map_eq_none_iff] at e
    have := h e
    omega
theorem slice_from (W : World) (A : Option Addr) (n c k : Nat) (hk : k ≤ n) (hc : n ≤ c) : (Instr.slice 40 (.slice A n c) (some (.int .i64 (k : Int))) none none).run Try.prog W = .ok (.slice (if c = k then A else A.map (·.add k)) (n - k) (c - k)) W := by
  have he : Try.prog.elem 40 = 5 := by kernel_rfl
  have ht : Try.prog.underlying 40 = some (.slice (Try.prog.elem 40)) := by rw [he]; exact Try.underlying40
  have hz : (sizeOf 5).run Try.prog W = .ok 1 W := by kernel_rfl
  rw [run_slice_l W 40 A n c ht .i64 k (by omega) (by omega), he, hz]
  simp [Result.andThen, sliced]
theorem garbled_length : ∀ (f i : Nat) (l : List UInt8), (DiskM.garbled f i l).length = l.length
  | _, _, [] => rfl
  | f, i, c :: r => by simp [DiskM.garbled, garbled_length f (i + 1) r]
theorem garbled_at : ∀ (f i : Nat) (l : List UInt8) (j : Nat) (h : j < l.length) (h' : j < (DiskM.garbled f i l).length), (DiskM.garbled f i l)[j] = if f ≤ i + j then l[j] ^^^ 0xa5 else l[j]
  | _, _, [], j, h, _ => absurd h (by simp)
  | f, i, c :: r, 0, _, _ => by simp [DiskM.garbled]
  | f, i, c :: r, j + 1, h, h' => by
    simp only [DiskM.garbled, List.getElem_cons_succ]
    rw [garbled_at f (i + 1) r j (by simpa using h)]
    rw [show i + 1 + j = i + (j + 1) by omega]
theorem xor_val (x : UInt8) : bits .xor .u8 (x.toNat : Int) 165 = ((x ^^^ 0xa5).toNat : Int) := by
  have h := b8_xor x 0xa5
  exact h
end Go.Proofs.Ythclaolmmlgalaa
