/- Package cell: the key that a number is; cells of a text; a text of no bytes cloned; and the law's own gcd. -/
import Derived.Test.YtnknekliaejbaaaClM
import Derived.Laws.ResultCell
import Derived.Laws.Rows
import Derived.Laws.Tables
import Derived.BigRegion
import Derived.BigQuiet
import Derived.Deep.QuietTactic
namespace Go.Proofs.Ytnknekliaejbaaa
open Go.RowKit
set_option linter.unusedVariables false
theorem new_heap (w : World) (o : Obj) : (w.alloc o).heap[w.heap.size]? = some o := (MapKept.heap_alloc w o).1
theorem below_drewN {w w' : World} {B : Nat} (h : Below B w w') (n : Nat) : Below B w (w'.drewN n) := ⟨h.os, h.tape, h.output, h.size, h.block⟩
theorem sizeK : (Try.prog.info? 29).map (·.size) = some 3 := by kernel_rfl
abbrev Z3 : Array Value := #[.int .i64 0, .int .i64 0, .string ⟨#[]⟩]
theorem integer_any (n : Int) (w : World) : Calls Try.prog 23 #[.int .i64 n] w fun e w' => e = .returned (Kv n) ∧ Below w.heap.size w w' := by
  go_enter Try.func23, Try.ntmps23
  go_wp2_with fail
  refine bodyPost_ret (results_cell_row (P := Try.prog) rfl _ _ w.heap.size 29 #[.int .i64 2, .int .i64 n, .string ⟨#[]⟩] (0, 0) _ rfl (new_heap w _) Try.underlying29 rfl (by kernel_rfl)) rfl ?_
  exact ⟨rfl, (Below.refl _ w).alloc (Nat.le_refl _) _⟩
theorem clone_lite (w : World) : Calls Try.prog 27 #[.string ⟨#[]⟩] w fun e w' => e = .returned (.string ⟨#[]⟩) ∧ w' = w := by
  go_enter Try.func27, Try.ntmps27
  go_wp2_with fail
  go_ret
  exact ⟨rfl, rfl⟩
theorem clone_none (w : World) : Calls Try.prog 22 #[.string ⟨#[]⟩] w fun e w' => e = .returned (.string ⟨#[]⟩) ∧ w' = w := by
  go_enter Try.func22, Try.ntmps22
  go_wp2_with (go_at_call 27; refine (clone_lite _).mono ?_; rintro e w1 ⟨rfl, rfl⟩)
  go_ret
  exact ⟨rfl, rfl⟩
theorem text32 (w : World) : Calls Try.prog 21 #[.int .i64 32] w fun e w' => e = .returned (.int .i64 3) ∧ w' = w := by
  go_enter Try.func21, Try.ntmps21
  go_wp2_with fail
  go_ret
  exact ⟨rfl, rfl⟩
theorem text_m1 (w : World) : Calls Try.prog 21 #[.int .i64 (-1)] w fun e w' => e = .returned (.int .i64 1) ∧ w' = w := by
  go_enter Try.func21, Try.ntmps21
  go_wp2_with fail
  go_ret
  exact ⟨rfl, rfl⟩
theorem gcd_any (a b : Nat) (w : World) (ha : a ≤ 1000) (hb : b ≤ 1000) : Calls Try.prog 4 #[.int .i64 (a : Int), .int .i64 (b : Int)] w fun e w' => e = .returned (.int .i64 (Nat.gcd a b : Nat)) ∧ Below w.heap.size w w' := by
  go_enter Try.func4, Try.ntmps4
  go_wp2
  go_loopw [0, 1] (fun x y wr => ∃ p q : Nat, p ≤ 1000 ∧ q ≤ 1000 ∧ x = .int .i64 (p : Int) ∧ y = .int .i64 (q : Int) ∧ Nat.gcd p q = Nat.gcd a b ∧ Below w.heap.size w wr) (fun _ y _ => (RowKit.intOf y).toNat)
  case atStart => exact ⟨a, b, ha, hb, rfl, rfl, rfl, Below.refl _ _⟩
  case round =>
    obtain ⟨p, q, hp, hq, rfl, rfl, hg, hbw⟩ := hrel
    have HB := Lib.hid hbw
    have HG := Lib.hid hg
    clear hbw hg
    by_cases q0 : q = 0
    · subst q0
      have HG2 : Hid (p = Nat.gcd a b) := by rw [← HG.out]; exact (Nat.gcd_zero_right p).symm
      go_wp2
      go_ret
      exact ⟨by rw [← HG2.out]; rfl, HB.out⟩
    · have q1 : (1 : Int) ≤ (q : Int) := by omega
      have q2 : (q : Int) ≤ 1000 := by omega
      have p1 : (0 : Int) ≤ (p : Int) := by omega
      have p2 : (p : Int) ≤ 1000 := by omega
      have qn : ((q : Int) == 0) = false := by simp; omega
      have qm : ((q : Int) != 0) = true := by simp; omega
      have HM : Hid (((p : Int) % (q : Int)) = ((p % q : Nat) : Int)) := by show _ = _; omega
      have HL : Hid (p % q < q) := Nat.mod_lt _ (by omega)
      have HR : Hid (Nat.gcd q (p % q) = Nat.gcd a b) := by show _ = _; rw [← HG.out, Nat.gcd_comm p q, Nat.gcd_rec q p, Nat.gcd_comm]
      clear q0
      go_wp2_with fail
      go_quiet (fail)
      go_roundw
      case rel =>
        refine ⟨_, _, _, _, _, _, _, _, ⟨q, p % q, by omega, by have := HL.out; omega, rfl, by rw [HM.out], HR.out, below_drewN HB.out _⟩, rfl⟩
      case measure => have := HL.out; have := HM.out; simp [RowKit.intOf]; omega
end Go.Proofs.Ytnknekliaejbaaa
