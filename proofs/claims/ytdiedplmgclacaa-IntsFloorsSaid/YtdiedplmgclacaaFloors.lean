/- Lemmas for the law IntsFloors: its numbers and the quotients of numbers whose signs are turned. -/
import Derived.Test.YtdiedplmgclacaaParts
namespace Go.Proofs.Ytdiedplmgclacaa
open Go.RowKit
theorem and_mask (n : Int) : bits .and .i64 n 1048575 = n % 1048576 := by
  have hm : (BitVec.ofInt 64 1048575).toNat = 2 ^ 20 - 1 := by decide
  have key : (BitVec.ofInt 64 n &&& BitVec.ofInt 64 1048575).toNat = (n % ((2 ^ 64 : Nat) : Int)).toNat % 2 ^ 20 := by
    rw [BitVec.toNat_and, BitVec.toNat_ofInt, hm, Nat.and_two_pow_sub_one_eq_mod]
  show IntKind.i64.wrap ((BitVec.ofInt 64 n &&& BitVec.ofInt 64 1048575).toNat : Nat) = n % 1048576
  rw [key, IntKind.wrap_i64]
  omega
theorem floor_y (n : Int) : ∃ y : Int, wrap64 (1 + bits .and .i64 n 1048575) = y ∧ 1 ≤ y ∧ y ≤ 1048576 := by
  refine ⟨_, rfl, ?_⟩
  rw [and_mask, wrap_in (by omega)]
  omega
theorem floor_x (n : Int) : ∃ x : Int, n.tmod 1099511627776 = x ∧ -1099511627776 ≤ x ∧ x ≤ 1099511627776 := by
  have t := (tdm n 1099511627776 (by decide)).2.2.2.1 (by decide)
  exact ⟨_, rfl, by omega, by omega⟩
/-- The quotient and the rest of x and y, and their bounds. -/
theorem floor_q {x y : Int} (x1 : -1099511627776 ≤ x) (x2 : x ≤ 1099511627776) (y1 : 1 ≤ y) :
    -1099511627776 ≤ x.fdiv y ∧ x.fdiv y ≤ 1099511627776 ∧ x.fdiv y * y = x - x.fmod y ∧ 0 ≤ x.fmod y ∧ x.fmod y < y := by
  have m := fmod_pos x (b := y) (by omega)
  have e := fdiv_parts x y
  have e' : x.fdiv y * y = x - x.fmod y := by rw [Int.mul_comm]; omega
  have b := tdiv_fits (a := x) (b := y) (by omega) (by omega) (by omega) (by omega)
  have n : (x.tdiv y).natAbs = x.natAbs / y.natAbs := Int.natAbs_tdiv x y
  have l : x.natAbs / y.natAbs ≤ x.natAbs := Nat.div_le_self _ _
  have f := fdm (a := x) (b := y) (by omega)
  have t := tdm x y (by omega)
  by_cases z : x.tmod y = 0
  · have := (f.1 z).1
    exact ⟨by omega, by omega, e', m.1, m.2⟩
  · by_cases s : (x < 0 ↔ y < 0)
    · have := (f.2.1 z s).1
      exact ⟨by omega, by omega, e', m.1, m.2⟩
    · have h1 := (f.2.2 z s).1
      have h2 := (f.2.2 z s).2
      refine ⟨?_, by omega, e', m.1, m.2⟩
      by_cases g : y = 1
      · subst g; exact absurd (tmod_one x) z
      · have l2 : x.natAbs / y.natAbs ≤ x.natAbs / 2 := Nat.div_le_div_left (by omega) (by decide)
        omega
theorem floor_turn {x y : Int} (y1 : 1 ≤ y) : (-x).fdiv (-y) = x.fdiv y ∧ (-x).fmod (-y) = -(x.fmod y) := by
  have m := fmod_pos x (b := y) (by omega)
  have e := fdiv_parts x y
  exact (Int.fdiv_fmod_unique' (a := -x) (b := -y) (by omega)).2 ⟨by rw [Int.neg_mul]; omega, by omega, by omega⟩
theorem fdiv_any (x y q : Int) (h : Hid (x.fdiv y = q)) (x1 : -1099511627776 ≤ x) (x2 : x ≤ 1099511627776) (y1 : 1 ≤ y) (y2 : y ≤ 1048576) (w : World) :
    Calls Try.prog 14 #[.int .i64 x, .int .i64 y] w fun e w' => e = .returned (.tuple #[.int .i64 q, .bool true]) ∧ w = w' := by
  have k := div_any x y (wf_of (by omega) (by omega)) (wf_of (by omega) (by omega)) w
  have b := floor_q x1 x2 y1
  have f : -9223372036854775808 ≤ x.fdiv y ∧ x.fdiv y ≤ 9223372036854775807 := by omega
  rw [divV, divB, if_neg (by omega), if_neg (by omega), fitV_yes f, fitB_yes f, h.out] at k
  exact k
theorem fmod_any (x y r : Int) (h : Hid (x.fmod y = r)) (x1 : -1099511627776 ≤ x) (x2 : x ≤ 1099511627776) (y1 : 1 ≤ y) (y2 : y ≤ 1048576) (w : World) :
    Calls Try.prog 15 #[.int .i64 x, .int .i64 y] w fun e w' => e = .returned (.tuple #[.int .i64 r, .bool true]) ∧ w = w' := by
  have k := mod_any x y (wf_of (by omega) (by omega)) (wf_of (by omega) (by omega)) w
  rw [modV, modB_yes (by omega), if_neg (by omega), h.out] at k
  exact k
theorem tdiv_any (x y q : Int) (h : Hid (x.fdiv y = q)) (x1 : -1099511627776 ≤ x) (x2 : x ≤ 1099511627776) (y1 : 1 ≤ y) (y2 : y ≤ 1048576) (w : World) :
    Calls Try.prog 14 #[.int .i64 (-x), .int .i64 (-y)] w fun e w' => e = .returned (.tuple #[.int .i64 q, .bool true]) ∧ w = w' := by
  have k := div_any (-x) (-y) (wf_of (by omega) (by omega)) (wf_of (by omega) (by omega)) w
  have b := floor_q x1 x2 y1
  have f : -9223372036854775808 ≤ x.fdiv y ∧ x.fdiv y ≤ 9223372036854775807 := by omega
  rw [divV, divB, if_neg (by omega), if_neg (by omega), (floor_turn y1).1, fitV_yes f, fitB_yes f, h.out] at k
  exact k
theorem tmod_any (x y r : Int) (h : Hid (x.fmod y = r)) (x1 : -1099511627776 ≤ x) (x2 : x ≤ 1099511627776) (y1 : 1 ≤ y) (y2 : y ≤ 1048576) (w : World) :
    Calls Try.prog 15 #[.int .i64 (-x), .int .i64 (-y)] w fun e w' => e = .returned (.tuple #[.int .i64 (-r), .bool true]) ∧ w = w' := by
  have k := mod_any (-x) (-y) (wf_of (by omega) (by omega)) (wf_of (by omega) (by omega)) w
  rw [modV, modB_yes (by omega), if_neg (by omega), (floor_turn y1).2, h.out] at k
  exact k
end Go.Proofs.Ytdiedplmgclacaa
