/- The walk of the law PlaneTurns, out of what is asked of package plane. -/
import Derived.Test.YtgcacpcjlbhniaaPlaneW
namespace Go.Proofs.Ytgcacpcjlbhniaa
open Go.RowKit
set_option linter.unusedVariables false
theorem and7 (k : Int) : ∃ K : Int, bits .and .i64 k 7 = K ∧ 0 ≤ K ∧ K ≤ 7 := by
  have h : (BitVec.ofInt 64 k &&& BitVec.ofInt 64 7).toNat ≤ 7 := by
    rw [BitVec.toNat_and]
    exact Nat.and_le_right
  refine ⟨_, rfl, ?_⟩
  show 0 ≤ IntKind.i64.wrap ((BitVec.ofInt 64 k &&& BitVec.ofInt 64 7).toNat : Int) ∧ IntKind.i64.wrap ((BitVec.ofInt 64 k &&& BitVec.ofInt 64 7).toNat : Int) ≤ 7
  generalize (BitVec.ofInt 64 k &&& BitVec.ofInt 64 7).toNat = z at *
  rw [IntKind.wrap_i64]
  omega
theorem turned_iff (k m n : Int) : In (turned k m n).1 (turned k m n).2 ↔ In m n := by
  unfold turned In
  rcases four k with e | e | e | e <;> rw [e] <;> simp only [rot] <;> omega
theorem run_neg_pv (w : World) {m n : Int} (h : In m n) : (Op.unary .neg (Pv m n)).run Try.prog w = .ok (.complex .f64 (Fl.fw true (-m)) (Fl.fw true (-n))) w := by
  have e : Op.unary .neg (Pv m n) = pure (.complex .f64 (Op.negFloat .f64 (Fl.fw false m)) (Op.negFloat .f64 (Fl.fw false n))) := rfl
  rw [e, Fl.neg_fw _ _ h.lt.1, Fl.neg_fw _ _ h.lt.2]
  rfl
def Nv (m n : Int) : Value := .complex .f64 (Fl.fw true m) (Fl.fw true n)
theorem run_neg_add (w : World) (t : TypeId) {m n : Int} (h : In m n) : (binOp .add t (Nv m n) (.complex .f64 0 0)).run Try.prog w = .ok (Pv m n) w := by
  have h1 := Fl.add_fw true false m 0 h.lt.1 (by decide) (by rw [Int.add_zero]; exact h.lt.1)
  have h2 := Fl.add_fw true false n 0 h.lt.2 (by decide) (by rw [Int.add_zero]; exact h.lt.2)
  rw [Int.add_zero, fw00] at h1 h2
  have e : ∀ k : Int, (Fl.sg true k && Fl.sg false 0) = false := fun k => by simp [Fl.sg]
  rw [e] at h1 h2
  exact run_complex_sum w .add (.inl rfl) t .f64 _ _ 0 0 _ _ (by unfold cSumBits; rw [h1, h2]; rfl)
theorem run_neq_self (w : World) (t : TypeId) {m n : Int} (h : In m n) : (binOp .neq t (Pv m n) (Pv m n)).run Try.prog w = .ok (.bool false) w := by
  rw [run_same w t h h, decide_eq_true ⟨rfl, rfl⟩]; rfl
theorem run_eql_self (w : World) (t : TypeId) {m n : Int} (h : In m n) : (binOp .eql t (Pv m n) (Pv m n)).run Try.prog w = .ok (.bool true) w := by
  rw [run_equal w t h h, decide_eq_true ⟨rfl, rfl⟩]
theorem i64_wf (k : Int) (h0 : -9223372036854775808 ≤ k) (h1 : k ≤ 9223372036854775807) : (Lit.int .i64 k).wf = true := by
  simp only [Lit.wf, Bool.and_eq_true, decide_eq_true_eq]; exact ⟨h0, h1⟩
set_option maxRecDepth 20000 in
set_option maxHeartbeats 8000000 in
theorem turns_walk (R : PlaneOk) (x y u v k n : Int) (w : World) (wk : (Lit.int .i64 k).wf = true) :
    Calls Try.prog 3 #[.int .i64 x, .int .i64 y, .int .i64 u, .int .i64 v, .int .i64 k, .int .i64 n] w fun e w' => e = .returned (.bool true) ∧ Below w.heap.size w w' := by
  obtain ⟨a1, ha1⟩ : ∃ z, x.tmod 1048577 = z := ⟨_, rfl⟩
  obtain ⟨a2, ha2⟩ : ∃ z, y.tmod 1048577 = z := ⟨_, rfl⟩
  obtain ⟨b1, hb1⟩ : ∃ z, u.tmod 1048577 = z := ⟨_, rfl⟩
  obtain ⟨b2, hb2⟩ : ∃ z, v.tmod 1048577 = z := ⟨_, rfl⟩
  have ia : In a1 a2 := ⟨by rw [← ha1]; exact tmod_in x, by rw [← ha2]; exact tmod_in y⟩
  have ib : In b1 b2 := ⟨by rw [← hb1]; exact tmod_in u, by rw [← hb2]; exact tmod_in v⟩
  have hk : -9223372036854775808 ≤ k ∧ k ≤ 9223372036854775807 := by
    simp only [Lit.wf, Bool.and_eq_true, decide_eq_true_eq] at wk; exact wk
  obtain ⟨K, hK, K0, K7⟩ := and7 k
  obtain ⟨N, hN, N0, N7⟩ := and7 n
  obtain ⟨t, ht⟩ : ∃ t, turned k a1 a2 = t := ⟨_, rfl⟩
  obtain ⟨t1, t2⟩ := t
  obtain ⟨e, he⟩ : ∃ e, turned k b1 b2 = e := ⟨_, rfl⟩
  obtain ⟨e1, e2⟩ := e
  obtain ⟨p, hp⟩ : ∃ p, turned K a1 a2 = p := ⟨_, rfl⟩
  obtain ⟨p1, p2⟩ := p
  obtain ⟨q, hq⟩ : ∃ q, turned (K + N) a1 a2 = q := ⟨_, rfl⟩
  obtain ⟨q1, q2⟩ := q
  have it : In t1 t2 := by have := turned_in k a1 a2 ia; rw [ht] at this; exact this
  have ie : In e1 e2 := by have := turned_in k b1 b2 ib; rw [he] at this; exact this
  have ip : In p1 p2 := by have := turned_in K a1 a2 ia; rw [hp] at this; exact this
  have iq : In q1 q2 := by have := turned_in (K + N) a1 a2 ia; rw [hq] at this; exact this
  have ht4 : turned 4 a1 a2 = (a1, a2) := rfl
  have ht2 : turned 2 a1 a2 = (-a1, -a2) := rfl
  obtain ⟨c1, hc1⟩ : ∃ z, -a1 = z := ⟨_, rfl⟩
  obtain ⟨c2, hc2⟩ : ∃ z, -a2 = z := ⟨_, rfl⟩
  have ic : In c1 c2 := by unfold In at *; omega
  have hback : turned (wrap64 (-k)) t1 t2 = (a1, a2) := by
    have h1 := turned_turned k (wrap64 (-k)) a1 a2
    rw [ht] at h1
    have h2 : turned (k + wrap64 (-k)) a1 a2 = turned 0 a1 a2 := turned_mod _ _ _ _ (by unfold wrap64; omega)
    rw [h1, h2]; rfl
  have hpq : turned N p1 p2 = (q1, q2) := by
    have h1 := turned_turned K N a1 a2
    rw [hp, hq] at h1; exact h1
  have hnorm : t1 * t1 + t2 * t2 = a1 * a1 + a2 * a2 := by have := turned_norm k a1 a2; rw [ht] at this; exact this
  obtain ⟨Z, hZ⟩ : ∃ Z, a1 * a1 + a2 * a2 = Z := ⟨_, rfl⟩
  rw [hZ] at hnorm
  have wnk : (Lit.int .i64 (wrap64 (-k))).wf = true := i64_wf _ (by unfold wrap64; omega) (by unfold wrap64; omega)
  -- the two sums
  obtain ⟨s1, s2, r1, r2, ps, is_, ir, hA1, hA2, hT9⟩ : ∃ (s1 s2 r1 r2 : Int) (ps : Bool), In s1 s2 ∧ In r1 r2 ∧
      (∀ W, Calls Try.prog 9 #[Pv a1 a2, Pv b1 b2] W fun e w' => e = .returned (.tuple #[Pv s1 s2, .bool ps]) ∧ Below W.heap.size W w') ∧
      (∀ W, Calls Try.prog 9 #[Pv t1 t2, Pv e1 e2] W fun e w' => e = .returned (.tuple #[Pv r1 r2, .bool ps]) ∧ Below W.heap.size W w') ∧ turned k s1 s2 = (r1, r2) := by
    have hsum := turned_add k a1 a2 b1 b2
    rw [ht, he] at hsum
    have hiff := turned_iff k (a1 + b1) (a2 + b2)
    rw [hsum] at hiff
    by_cases h : In (a1 + b1) (a2 + b2)
    · refine ⟨a1 + b1, a2 + b2, t1 + e1, t2 + e2, true, h, hiff.2 h, fun W => ?_, fun W => ?_, hsum⟩
      · have z := R.add a1 a2 b1 b2 W ia ib
        rw [if_pos h, decide_eq_true h] at z; exact z
      · have z := R.add t1 t2 e1 e2 W it ie
        rw [if_pos (hiff.2 h), decide_eq_true (hiff.2 h)] at z; exact z
    · refine ⟨0, 0, 0, 0, false, by decide, by decide, fun W => ?_, fun W => ?_, ?_⟩
      · have z := R.add a1 a2 b1 b2 W ia ib
        rw [if_neg h, decide_eq_false h] at z; exact z
      · have z := R.add t1 t2 e1 e2 W it ie
        have h' : ¬ In (t1 + e1) (t2 + e2) := fun q => h (hiff.1 q)
        rw [if_neg h', decide_eq_false h'] at z; exact z
      · unfold turned
        rcases four k with e | e | e | e <;> rw [e] <;> rfl
  -- the two products
  obtain ⟨m1, m2, d1, d2, pm_, im, id_, hM1, hM2, hT10⟩ : ∃ (m1 m2 d1 d2 : Int) (pm_ : Bool), In m1 m2 ∧ In d1 d2 ∧
      (∀ W, Calls Try.prog 10 #[Pv a1 a2, Pv b1 b2] W fun e w' => e = .returned (.tuple #[Pv m1 m2, .bool pm_]) ∧ Below W.heap.size W w') ∧
      (∀ W, Calls Try.prog 10 #[Pv t1 t2, Pv b1 b2] W fun e w' => e = .returned (.tuple #[Pv d1 d2, .bool pm_]) ∧ Below W.heap.size W w') ∧ turned k m1 m2 = (d1, d2) := by
    have hmul := turned_mul k a1 a2 b1 b2
    rw [ht] at hmul
    have hiff := turned_iff k (pm (a1, a2) (b1, b2)).1 (pm (a1, a2) (b1, b2)).2
    rw [hmul] at hiff
    by_cases h : In (pm (a1, a2) (b1, b2)).1 (pm (a1, a2) (b1, b2)).2
    · refine ⟨_, _, _, _, true, h, hiff.2 h, fun W => ?_, fun W => ?_, hmul⟩
      · have z := R.mul a1 a2 b1 b2 W ia ib
        rw [if_pos h, decide_eq_true h] at z; exact z
      · have z := R.mul t1 t2 b1 b2 W it ib
        rw [if_pos (hiff.2 h), decide_eq_true (hiff.2 h)] at z; exact z
    · refine ⟨0, 0, 0, 0, false, by decide, by decide, fun W => ?_, fun W => ?_, ?_⟩
      · have z := R.mul a1 a2 b1 b2 W ia ib
        rw [if_neg h, decide_eq_false h] at z; exact z
      · have z := R.mul t1 t2 b1 b2 W it ib
        have h' : ¬ In (pm (t1, t2) (b1, b2)).1 (pm (t1, t2) (b1, b2)).2 := fun q => h (hiff.1 q)
        rw [if_neg h', decide_eq_false h'] at z; exact z
      · unfold turned
        rcases four k with e | e | e | e <;> rw [e] <;> rfl
  have T1 : Hid (∀ W, Calls Try.prog 7 #[Pv a1 a2, .int .i64 k] W fun e w' => e = .returned (Pv t1 t2) ∧ Below W.heap.size W w') := fun W => by
    have z := R.turn a1 a2 k W ia wk
    rw [show turned k a1 a2 = _ from ht] at z
    exact z
  have T2 : Hid (∀ W, Calls Try.prog 7 #[Pv t1 t2, .int .i64 (wrap64 (-k))] W fun e w' => e = .returned (Pv a1 a2) ∧ Below W.heap.size W w') := fun W => by
    have z := R.turn t1 t2 (wrap64 (-k)) W it wnk
    rw [show turned (wrap64 (-k)) t1 t2 = _ from hback] at z
    exact z
  have T3 : Hid (∀ W, Calls Try.prog 7 #[Pv a1 a2, .int .i64 4] W fun e w' => e = .returned (Pv a1 a2) ∧ Below W.heap.size W w') := fun W => by
    have z := R.turn a1 a2 4 W ia (by decide)
    rw [show turned 4 a1 a2 = _ from ht4] at z
    exact z
  have T4 : Hid (∀ W, Calls Try.prog 7 #[Pv a1 a2, .int .i64 2] W fun e w' => e = .returned (Pv c1 c2) ∧ Below W.heap.size W w') := fun W => by
    have z := R.turn a1 a2 2 W ia (by decide)
    rw [show turned 2 a1 a2 = _ from (by rw [ht2, hc1, hc2])] at z
    exact z
  have T5 : Hid (∀ W, Calls Try.prog 7 #[Pv a1 a2, .int .i64 K] W fun e w' => e = .returned (Pv p1 p2) ∧ Below W.heap.size W w') := fun W => by
    have z := R.turn a1 a2 K W ia (i64_wf _ (by omega) (by omega))
    rw [show turned K a1 a2 = _ from hp] at z
    exact z
  have T6 : Hid (∀ W, Calls Try.prog 7 #[Pv p1 p2, .int .i64 N] W fun e w' => e = .returned (Pv q1 q2) ∧ Below W.heap.size W w') := fun W => by
    have z := R.turn p1 p2 N W ip (i64_wf _ (by omega) (by omega))
    rw [show turned N p1 p2 = _ from hpq] at z
    exact z
  have T7 : Hid (∀ W, Calls Try.prog 7 #[Pv a1 a2, .int .i64 (K + N)] W fun e w' => e = .returned (Pv q1 q2) ∧ Below W.heap.size W w') := fun W => by
    have z := R.turn a1 a2 (K + N) W ia (i64_wf _ (by omega) (by omega))
    rw [show turned (K + N) a1 a2 = _ from hq] at z
    exact z
  have T8 : Hid (∀ W, Calls Try.prog 7 #[Pv b1 b2, .int .i64 k] W fun e w' => e = .returned (Pv e1 e2) ∧ Below W.heap.size W w') := fun W => by
    have z := R.turn b1 b2 k W ib wk
    rw [show turned k b1 b2 = _ from he] at z
    exact z
  have T9 : Hid (∀ W, Calls Try.prog 7 #[Pv s1 s2, .int .i64 k] W fun e w' => e = .returned (Pv r1 r2) ∧ Below W.heap.size W w') := fun W => by
    have z := R.turn s1 s2 k W is_ wk
    rw [show turned k s1 s2 = _ from hT9] at z
    exact z
  have T10 : Hid (∀ W, Calls Try.prog 7 #[Pv m1 m2, .int .i64 k] W fun e w' => e = .returned (Pv d1 d2) ∧ Below W.heap.size W w') := fun W => by
    have z := R.turn m1 m2 k W im wk
    rw [show turned k m1 m2 = _ from hT10] at z
    exact z
  have MY : Hid (∀ W, Calls Try.prog 6 #[Pv a1 a2] W fun e w' => e = .returned (.bool true) ∧ Below W.heap.size W w') := fun W => R.may a1 a2 W ia
  have NA : Hid (∀ W, Calls Try.prog 8 #[Pv a1 a2] W fun e w' => e = .returned (.int .i64 Z) ∧ Below W.heap.size W w') := fun W => by
    have z := R.norm a1 a2 W ia
    rw [hZ] at z; exact z
  have NT : Hid (∀ W, Calls Try.prog 8 #[Pv t1 t2] W fun e w' => e = .returned (.int .i64 Z) ∧ Below W.heap.size W w') := fun W => by
    have z := R.norm t1 t2 W it
    rw [hnorm] at z; exact z
  have A1 := Lib.hid hA1
  have A2 := Lib.hid hA2
  have M1 := Lib.hid hM1
  have M2 := Lib.hid hM2
  have TD := Lib.hid (told_any R)
  have WA : Hid (∀ W, Calls Try.prog 5 #[.int .i64 x, .int .i64 y] W fun e w' => e = .returned (Pv a1 a2) ∧ W = w') := fun W => by
    have z := whole_any x y W
    rw [ha1, ha2] at z; exact z
  have WB : Hid (∀ W, Calls Try.prog 5 #[.int .i64 u, .int .i64 v] W fun e w' => e = .returned (Pv b1 b2) ∧ W = w') := fun W => by
    have z := whole_any u v W
    rw [hb1, hb2] at z; exact z
  have hg := run_eqG
  have g1 := fun W : World => run_zero_add W 22 ia
  have g2 : ∀ W : World, (Op.unary .neg (Pv a1 a2)).run Try.prog W = .ok (Nv c1 c2) W := fun W => by rw [run_neg_pv W ia, hc1, hc2]; rfl
  have g3 := fun W : World => run_neg_add W 22 ic
  have n1 := fun W : World => run_neq_self W 22 ia
  have n2 := fun W : World => run_neq_self W 22 ic
  have n3 := fun W : World => run_neq_self W 22 iq
  have n4 := fun W : World => run_neq_self W 22 ir
  have n5 := fun W : World => run_eql_self W 22 id_
  have kn : 0 ≤ K + N := by omega
  have kn2 : K + N ≤ 14 := by omega
  have HB : Hid (Below w.heap.size w w) := Below.refl _ w
  clear R ha1 ha2 hb1 hb2 ia ib hk ht he hp hq it ie ip iq ht4 ht2 hc1 hc2 ic hback hpq hnorm hZ wnk is_ ir hA1 hA2 hT9 im id_ hM1 hM2 hT10 wk
  cases ps <;> cases pm_
  all_goals
    go_enter Try.func3, Try.ntmps3
    go_wp2_with (first
      | (go_at_call 5; with_reducible refine (WA.out _).mono ?_; rintro e w' ⟨rfl, rfl⟩)
      | (go_at_call 5; with_reducible refine (WB.out _).mono ?_; rintro e w' ⟨rfl, rfl⟩)
      | (go_at_call 6; with_reducible refine (MY.out _).mono ?_; rintro e w' ⟨rfl, hb⟩; have HB := Lib.hid (below_and HB.out hb); clear hb)
      | (go_at_call 7; with_reducible refine (T1.out _).mono ?_; rintro e w' ⟨rfl, hb⟩; have HB := Lib.hid (below_and HB.out hb); clear hb)
      | (go_at_call 7; with_reducible refine (T2.out _).mono ?_; rintro e w' ⟨rfl, hb⟩; have HB := Lib.hid (below_and HB.out hb); clear hb)
      | (go_at_call 7; with_reducible refine (T3.out _).mono ?_; rintro e w' ⟨rfl, hb⟩; have HB := Lib.hid (below_and HB.out hb); clear hb)
      | (go_at_call 7; with_reducible refine (T4.out _).mono ?_; rintro e w' ⟨rfl, hb⟩; have HB := Lib.hid (below_and HB.out hb); clear hb)
      | (go_at_call 7; with_reducible refine (T5.out _).mono ?_; rintro e w' ⟨rfl, hb⟩; have HB := Lib.hid (below_and HB.out hb); clear hb)
      | (go_at_call 7; with_reducible refine (T6.out _).mono ?_; rintro e w' ⟨rfl, hb⟩; have HB := Lib.hid (below_and HB.out hb); clear hb)
      | (go_at_call 7; with_reducible refine (T7.out _).mono ?_; rintro e w' ⟨rfl, hb⟩; have HB := Lib.hid (below_and HB.out hb); clear hb)
      | (go_at_call 7; with_reducible refine (T8.out _).mono ?_; rintro e w' ⟨rfl, hb⟩; have HB := Lib.hid (below_and HB.out hb); clear hb)
      | (go_at_call 7; with_reducible refine (T9.out _).mono ?_; rintro e w' ⟨rfl, hb⟩; have HB := Lib.hid (below_and HB.out hb); clear hb)
      | (go_at_call 7; with_reducible refine (T10.out _).mono ?_; rintro e w' ⟨rfl, hb⟩; have HB := Lib.hid (below_and HB.out hb); clear hb)
      | (go_at_call 8; with_reducible refine (NA.out _).mono ?_; rintro e w' ⟨rfl, hb⟩; have HB := Lib.hid (below_and HB.out hb); clear hb)
      | (go_at_call 8; with_reducible refine (NT.out _).mono ?_; rintro e w' ⟨rfl, hb⟩; have HB := Lib.hid (below_and HB.out hb); clear hb)
      | (go_at_call 9; with_reducible refine (A1.out _).mono ?_; rintro e w' ⟨rfl, hb⟩; have HB := Lib.hid (below_and HB.out hb); clear hb)
      | (go_at_call 9; with_reducible refine (A2.out _).mono ?_; rintro e w' ⟨rfl, hb⟩; have HB := Lib.hid (below_and HB.out hb); clear hb)
      | (go_at_call 10; with_reducible refine (M1.out _).mono ?_; rintro e w' ⟨rfl, hb⟩; have HB := Lib.hid (below_and HB.out hb); clear hb)
      | (go_at_call 10; with_reducible refine (M2.out _).mono ?_; rintro e w' ⟨rfl, hb⟩; have HB := Lib.hid (below_and HB.out hb); clear hb)
      | (go_at_call 11; with_reducible refine (TD.out _).mono ?_; rintro e w' ⟨rfl, hb⟩; have HB := Lib.hid (below_and HB.out hb); clear hb))
    go_ret
    exact ⟨rfl, HB.out⟩
end Go.Proofs.Ytgcacpcjlbhniaa
