/- Addresses moved on. -/
import Derived.Test.YtnknekliaejbaaaRows
import Derived.WalkKit
namespace Go.Proofs.Ytnknekliaejbaaa
open Go.RowKit

theorem add_block (p : Addr) (i : Nat) : (p.add i).block = p.block := by
  unfold Addr.add
  split <;> rfl
theorem add_add (p : Addr) (i j : Nat) : (p.add i).add j = p.add (i + j) := by
  by_cases a : i = 0
  · subst a; simp [Addr.add]
  · by_cases b : j = 0
    · subst b; simp [Addr.add]
    · simp [Addr.add, a, b, Nat.add_assoc]
end Go.Proofs.Ytnknekliaejbaaa
