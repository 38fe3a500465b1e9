/- The walk of the law PlaneNorms, out of what is asked of package plane. -/
import Derived.Test.YtgcacpcjlbhniaaPlaneT
namespace Go.Proofs.Ytgcacpcjlbhniaa
open Go.RowKit
set_option linter.unusedVariables false
theorem tmod_thousand (x : Int) : (x.tmod 1001).natAbs ≤ 1000 := by
  have h1 : x.tmod 1001 < 1001 := Int.tmod_lt_of_pos x (by omega)
  have h2 : -1001 < x.tmod 1001 := Int.lt_tmod_of_pos x (by omega)
  omega
theorem mul_small {a b : Int} (ha : a.natAbs ≤ 1000) (hb : b.natAbs ≤ 1000) : (a * b).natAbs ≤ 1000000 := by
  rw [Int.natAbs_mul]
  exact Nat.mul_le_mul ha hb
theorem sq_small {a : Int} (ha : a.natAbs ≤ 1048576) : 0 ≤ a * a ∧ a * a ≤ 1099511627776 := by
  have h : (a * a).natAbs ≤ 1099511627776 := by
    rw [Int.natAbs_mul]
    exact Nat.mul_le_mul ha ha
  have h0 : 0 ≤ a * a := by
    rcases Int.lt_or_le a 0 with c | c
    · exact Int.le_of_lt (Int.mul_pos_of_neg_of_neg c c)
    · exact Int.mul_nonneg c c
  exact ⟨h0, by omega⟩
theorem pv_ofInt (m n : Int) : Value.complex .f64 (floatOfInt .f64 m) (floatOfInt .f64 n) = Pv m n := by rw [Fl.ofInt_fw, Fl.ofInt_fw]; rfl
set_option maxRecDepth 20000 in
set_option maxHeartbeats 8000000 in
theorem norms_walk (R : PlaneOk) (x y u v : Int) (w : World) :
    Calls Try.prog 4 #[.int .i64 x, .int .i64 y, .int .i64 u, .int .i64 v] w fun e w' => e = .returned (.bool true) ∧ Below w.heap.size w w' := by
  obtain ⟨a1, ha1⟩ : ∃ z, x.tmod 1001 = z := ⟨_, rfl⟩
  obtain ⟨a2, ha2⟩ : ∃ z, y.tmod 1001 = z := ⟨_, rfl⟩
  obtain ⟨b1, hb1⟩ : ∃ z, u.tmod 1001 = z := ⟨_, rfl⟩
  obtain ⟨b2, hb2⟩ : ∃ z, v.tmod 1001 = z := ⟨_, rfl⟩
  have na1 : a1.natAbs ≤ 1000 := by rw [← ha1]; exact tmod_thousand x
  have na2 : a2.natAbs ≤ 1000 := by rw [← ha2]; exact tmod_thousand y
  have nb1 : b1.natAbs ≤ 1000 := by rw [← hb1]; exact tmod_thousand u
  have nb2 : b2.natAbs ≤ 1000 := by rw [← hb2]; exact tmod_thousand v
  have ia : In a1 a2 := ⟨by omega, by omega⟩
  have ib : In b1 b2 := ⟨by omega, by omega⟩
  have hpm : pm (a1, a2) (b1, b2) = (a1 * b1 - a2 * b2, a1 * b2 + a2 * b1) := rfl
  have hnm := mul_norm a1 a2 b1 b2
  rw [hpm] at hnm
  have k1 := mul_small na1 nb1
  have k2 := mul_small na2 nb2
  have k3 := mul_small na1 nb2
  have k4 := mul_small na2 nb1
  have hmul := fun W => R.mul a1 a2 b1 b2 W ia ib
  simp only [hpm] at hmul hnm
  obtain ⟨p1, hp1⟩ : ∃ z, a1 * b1 = z := ⟨_, rfl⟩
  obtain ⟨p2, hp2⟩ : ∃ z, a2 * b2 = z := ⟨_, rfl⟩
  obtain ⟨p3, hp3⟩ : ∃ z, a1 * b2 = z := ⟨_, rfl⟩
  obtain ⟨p4, hp4⟩ : ∃ z, a2 * b1 = z := ⟨_, rfl⟩
  rw [hp1, hp2, hp3, hp4] at hnm
  rw [hp1] at k1
  rw [hp2] at k2
  rw [hp3] at k3
  rw [hp4] at k4
  simp only [hp1, hp2, hp3, hp4] at hmul
  have TD := Lib.hid (told_any R)
  have HB : Hid (Below w.heap.size w w) := Below.refl _ w
  by_cases h : In (p1 - p2) (p3 + p4)
  · have M1 : Hid (∀ W, Calls Try.prog 10 #[.complex .f64 (floatOfInt .f64 a1) (floatOfInt .f64 a2), .complex .f64 (floatOfInt .f64 b1) (floatOfInt .f64 b2)] W fun e w' => e = .returned (.tuple #[Pv (p1 - p2) (p3 + p4), .bool true]) ∧ Below W.heap.size W w') := fun W => by
      have z := hmul W
      rw [if_pos h, decide_eq_true h] at z
      rw [pv_ofInt, pv_ofInt]; exact z
    obtain ⟨c1, hc1⟩ : ∃ z, p1 - p2 = z := ⟨_, rfl⟩
    obtain ⟨c2, hc2⟩ : ∃ z, p3 + p4 = z := ⟨_, rfl⟩
    rw [hc1, hc2] at hnm h M1
    have s1 := sq_small h.1
    have s2 := sq_small h.2
    obtain ⟨NA, hNA⟩ : ∃ z, a1 * a1 + a2 * a2 = z := ⟨_, rfl⟩
    obtain ⟨NB, hNB⟩ : ∃ z, b1 * b1 + b2 * b2 = z := ⟨_, rfl⟩
    obtain ⟨NC, hNC⟩ : ∃ z, c1 * c1 + c2 * c2 = z := ⟨_, rfl⟩
    have nc0 : 0 ≤ NC := by omega
    have nc1 : NC ≤ 2199023255552 := by omega
    rw [hNA, hNB, hNC] at hnm
    have hprod : NA * NB = NC := hnm.symm
    have N1 : Hid (∀ W, Calls Try.prog 8 #[Pv c1 c2] W fun e w' => e = .returned (.int .i64 NC) ∧ Below W.heap.size W w') := fun W => by
      have z := R.norm c1 c2 W h
      rw [hNC] at z; exact z
    have N2 : Hid (∀ W, Calls Try.prog 8 #[.complex .f64 (floatOfInt .f64 a1) (floatOfInt .f64 a2)] W fun e w' => e = .returned (.int .i64 NA) ∧ Below W.heap.size W w') := fun W => by
      have z := R.norm a1 a2 W ia
      rw [hNA] at z; rw [pv_ofInt]; exact z
    have N3 : Hid (∀ W, Calls Try.prog 8 #[.complex .f64 (floatOfInt .f64 b1) (floatOfInt .f64 b2)] W fun e w' => e = .returned (.int .i64 NB) ∧ Below W.heap.size W w') := fun W => by
      have z := R.norm b1 b2 W ib
      rw [hNB] at z; rw [pv_ofInt]; exact z
    have M2 : Hid (∀ W, Calls Try.prog 10 #[.complex .f64 (floatOfInt .f64 a1) (floatOfInt .f64 a2), .complex .f64 (floatOfInt .f64 b1) (floatOfInt .f64 b2)] W fun e w' => e = .returned (.tuple #[Pv c1 c2, .bool true]) ∧ Below W.heap.size W w') := M1
    clear R na1 na2 nb1 nb2 ia ib hpm hnm k1 k2 k3 k4 hmul hp1 hp2 hp3 hp4 h M1 hc1 hc2 s1 s2 hNA hNB hNC
    go_enter Try.func4, Try.ntmps4
    go_wp2_with (first
      | (go_at_call 10; with_reducible refine (M2.out _).mono ?_; rintro e w' ⟨rfl, hb⟩; have HB := Lib.hid (below_and HB.out hb); clear hb)
      | (go_at_call 8; with_reducible refine (N1.out _).mono ?_; rintro e w' ⟨rfl, hb⟩; have HB := Lib.hid (below_and HB.out hb); clear hb)
      | (go_at_call 8; with_reducible refine (N2.out _).mono ?_; rintro e w' ⟨rfl, hb⟩; have HB := Lib.hid (below_and HB.out hb); clear hb)
      | (go_at_call 8; with_reducible refine (N3.out _).mono ?_; rintro e w' ⟨rfl, hb⟩; have HB := Lib.hid (below_and HB.out hb); clear hb)
      | (go_at_call 11; with_reducible refine (TD.out _).mono ?_; rintro e w' ⟨rfl, hb⟩; have HB := Lib.hid (below_and HB.out hb); clear hb))
    go_ret
    exact ⟨by first | rfl | simp, HB.out⟩
  · have M1 : Hid (∀ W, Calls Try.prog 10 #[.complex .f64 (floatOfInt .f64 a1) (floatOfInt .f64 a2), .complex .f64 (floatOfInt .f64 b1) (floatOfInt .f64 b2)] W fun e w' => e = .returned (.tuple #[Pv 0 0, .bool false]) ∧ Below W.heap.size W w') := fun W => by
      have z := hmul W
      rw [if_neg h, decide_eq_false h] at z
      rw [pv_ofInt, pv_ofInt]; exact z
    have q1 : -1000000 ≤ p1 ∧ p1 ≤ 1000000 := by omega
    have q2 : -1000000 ≤ p2 ∧ p2 ≤ 1000000 := by omega
    have q3 : -1000000 ≤ p3 ∧ p3 ≤ 1000000 := by omega
    have q4 : -1000000 ≤ p4 ∧ p4 ≤ 1000000 := by omega
    obtain ⟨q1a, q1b⟩ := q1
    obtain ⟨q2a, q2b⟩ := q2
    obtain ⟨q3a, q3b⟩ := q3
    obtain ⟨q4a, q4b⟩ := q4
    have hcase : (1048576 < p1 - p2) ∨ (p1 - p2 ≤ 1048576 ∧ p1 - p2 < -1048576) ∨ (p1 - p2 ≤ 1048576 ∧ -1048576 ≤ p1 - p2 ∧ 1048576 < p3 + p4) ∨ (p1 - p2 ≤ 1048576 ∧ -1048576 ≤ p1 - p2 ∧ p3 + p4 ≤ 1048576 ∧ p3 + p4 < -1048576) := by
      unfold In at h
      omega
    clear R na1 na2 nb1 nb2 ia ib hpm hnm k1 k2 k3 k4 hmul h
    rcases hcase with c1 | ⟨c1, c2⟩ | ⟨c1, c2, c3⟩ | ⟨c1, c2, c3, c4⟩
    all_goals
      go_enter Try.func4, Try.ntmps4
      go_wp2_with (first
        | (go_at_call 10; with_reducible refine (M1.out _).mono ?_; rintro e w' ⟨rfl, hb⟩; have HB := Lib.hid (below_and HB.out hb); clear hb)
        | (go_at_call 11; with_reducible refine (TD.out _).mono ?_; rintro e w' ⟨rfl, hb⟩; have HB := Lib.hid (below_and HB.out hb); clear hb))
      go_ret
      exact ⟨by first | rfl | simp, HB.out⟩
end Go.Proofs.Ytgcacpcjlbhniaa
