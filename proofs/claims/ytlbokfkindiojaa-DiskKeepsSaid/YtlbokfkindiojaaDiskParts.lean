/- What the walks of stage 3's laws share: pieces of a text, calls in the form that a walk takes. -/
import Derived.Test.YtlbokfkindiojaaDiskFull
namespace Go.Proofs.Ytlbokfkindiojaa
open Go.RowKit
set_option linter.unusedVariables false

theorem Bs.rest {w : World} {B : Nat} {A : Option Addr} {l : List UInt8} (h : Bs w B A l) (k c : Nat) (hk : k ≤ l.length) (hc : l.length ≤ c) : Bs w B (if c = k then A else A.map (·.add k)) (l.drop k) := fun i hi => by
  have hi' : k + i < l.length := by rw [List.length_drop] at hi; omega
  obtain ⟨p, rfl, hb, hcell⟩ := h (k + i) hi'
  rw [if_neg (by omega)]
  refine ⟨p.add k, rfl, by rw [add_block]; exact hb, ?_⟩
  rw [add_add, hcell]
  simp
theorem full_old {d : DiskM.D} {s b : List UInt8} {f : DiskM.F} (h0 : d.down = false) (h1 : DiskM.named s = true) (h2 : (b.length : Int) ≤ (d.max : Int) - DiskM.used d.l) (h3 : DiskM.find d.l s = some f) : DiskM.append d s b = (0, { d with l := DiskM.put d.l ⟨s, f.b ++ b, f.sync⟩ }) := by
  unfold DiskM.append
  rw [h0, if_neg (by decide), h1, if_neg (by decide), if_neg (by omega), h3]
theorem st_append_to {R : World → (Nat → Prop) → Addr → DiskM.D → Prop} (D : DiskOk R) {w0 w : World} {p : Addr} {M M' : DiskM.D} {r : Int} (h : St R w0 w p M) (s : ByteArray) (A : Option Addr) (b : List UInt8) (n c : Nat) (hn : b.length = n) (hl : n ≤ 4096) (hA : A = none → c = 0) (hb : Bs w w.heap.size A b) (hk : M.l.length < 1000) (hr : DiskM.append M s.data.toList b = (r, M')) :
    Calls Try.prog 12 #[.pointer (some p), .string s, .slice A n c] w fun e w' => e = .returned (.int .i64 r) ∧ St R w0 w' p M' := by
  subst hn
  exact h.num (congrArg Prod.fst hr) (congrArg Prod.snd hr) fun F hf => D.append hf s A b c hl hA hb hk
theorem rest_none {A : Option Addr} {c k : Nat} (h : A = none → c = 0) : (if c = k then A else A.map (·.add k)) = none → c - k = 0 := by
  intro e
  split at e
  · omega
  · rw [Option.map_eq_none_iff] at e
    have := h e
    omega
theorem slice_from (W : World) (A : Option Addr) (n c k : Nat) (hk : k ≤ n) (hc : n ≤ c) : (Instr.slice 39 (.slice A n c) (some (.int .i64 (k : Int))) none none).run Try.prog W = .ok (.slice (if c = k then A else A.map (·.add k)) (n - k) (c - k)) W := by
  have he : Try.prog.elem 39 = 5 := by kernel_rfl
  have ht : Try.prog.underlying 39 = some (.slice (Try.prog.elem 39)) := by rw [he]; exact Try.underlying39
  have hz : (sizeOf 5).run Try.prog W = .ok 1 W := by kernel_rfl
  rw [run_slice_l W 39 A n c ht .i64 k (by omega) (by omega), he, hz]
  simp [Result.andThen, sliced]
theorem St.read_to {R : World → (Nat → Prop) → Addr → DiskM.D → Prop} (D : DiskOk R) {w0 w : World} {p : Addr} {M : DiskM.D} (h : St R w0 w p M) (s : ByteArray) (hs : s.size ≤ maxLen) (l : List UInt8) (r : Int) (n : Nat) (hn : l.length = n) (hx : DiskM.read M s.data.toList = (l, r)) :
    Calls Try.prog 15 #[.pointer (some p), .string s] w fun e w' => ∃ A c, e = .returned (.tuple #[.slice A n c, .int .i64 r]) ∧ (A = none → c = 0) ∧ n ≤ c ∧ Bs w' w'.heap.size A l ∧ St R w0 w' p M ∧ Below w.heap.size w w' := by
  subst hn
  exact h.read D s hs l r hx
theorem St.size_b {R : World → (Nat → Prop) → Addr → DiskM.D → Prop} (D : DiskOk R) {w0 w : World} {p : Addr} {M : DiskM.D} (h : St R w0 w p M) (s : ByteArray) (hs : s.size ≤ maxLen) (n : Nat) (hn : DiskM.size M s.data.toList = n) :
    Calls Try.prog 23 #[.pointer (some p), .string s] w fun e w' => e = .returned (.int .i64 (n : Int)) ∧ Below w.heap.size w w' := by
  subst hn
  obtain ⟨F, hr, hf⟩ := h.1
  exact D.size hr s hs
theorem St.used_b {R : World → (Nat → Prop) → Addr → DiskM.D → Prop} (D : DiskOk R) {w0 w : World} {p : Addr} {M : DiskM.D} (h : St R w0 w p M) (n : Nat) (hn : DiskM.used M.l = n) :
    Calls Try.prog 19 #[.pointer (some p)] w fun e w' => e = .returned (.int .i64 (n : Int)) ∧ Below w.heap.size w w' := by
  subst hn
  obtain ⟨F, hr, hf⟩ := h.1
  exact D.used hr
end Go.Proofs.Ytlbokfkindiojaa
