/- Package plane keeps what the laws ask of it at points. -/
import Derived.Test.YtgcacpcjlbhniaaDoorPlC
namespace Go.Proofs.YtgcacpcjlbhniaaDoor
open Go.RowKit
set_option linter.unusedVariables false
theorem below_of_eq {a w w' : World} (h : w = w') : Below w.heap.size w w' := by subst h; exact Below.refl _ _
theorem ex_of {n : Int} {k : Nat} (h : n.natAbs ≤ k) (hk : k < 9007199254740992) : Ex n := Nat.lt_of_le_of_lt h hk
theorem In.ex {m n : Int} (h : In m n) : Ex m ∧ Ex n := h.lt
theorem may_true (m n : Int) (w : World) (h : In m n) : Calls Tryd.prog 7 #[Pv m n] w fun e w' => e = .returned (.bool true) ∧ w = w' := by
  have := may_pv m n h.ex.1 h.ex.2 w
  rwa [decide_eq_true h] at this
theorem norm_ok (m n : Int) (w : World) (h : In m n) : Calls Tryd.prog 12 #[Pv m n] w fun e w' => e = .returned (.int .i64 (m * m + n * n)) ∧ w = w' := by
  have h1 := fun W => may_true m n W h
  have h2 := squares_ok m n (by unfold In at h; omega) (by unfold In at h; omega)
  obtain ⟨X, hX⟩ : ∃ X, Pv m n = X := ⟨_, rfl⟩
  simp only [hX] at h1 h2 ⊢
  clear hX
  go_enter Tryd.func12, Tryd.ntmps12
  go_wp2_with first
    | (go_at_call 7; refine (h1 _).mono ?_; rintro e w' ⟨rfl, rfl⟩)
    | (go_at_call 18; refine (h2 _).mono ?_; rintro e w' ⟨rfl, rfl⟩)
  go_ret
  exact ⟨rfl, rfl⟩
theorem add_ok (m n u v : Int) (w : World) (h : In m n) (h' : In u v) : Calls Tryd.prog 10 #[Pv m n, Pv u v] w fun e w' =>
    e = .returned (.tuple #[if In (m + u) (n + v) then Pv (m + u) (n + v) else Pv 0 0, .bool (decide (In (m + u) (n + v)))]) ∧ w = w' := by
  have h1 := fun W => may_true m n W h
  have h2 := fun W => may_true u v W h'
  have h3 := cadd_pv m n u v h h'
  unfold In at h h'
  have h4 := point_ok (m + u) (n + v) (by unfold Ex; omega) (by unfold Ex; omega)
  obtain ⟨b, hb⟩ : ∃ b, decide (In (m + u) (n + v)) = b := ⟨_, rfl⟩
  obtain ⟨R, hR⟩ : ∃ R, (if In (m + u) (n + v) then Pv (m + u) (n + v) else Pv 0 0) = R := ⟨_, rfl⟩
  obtain ⟨X, hX⟩ : ∃ X, Pv m n = X := ⟨_, rfl⟩
  obtain ⟨Y, hY⟩ : ∃ Y, Pv u v = Y := ⟨_, rfl⟩
  obtain ⟨S, hS⟩ : ∃ S, Pv (m + u) (n + v) = S := ⟨_, rfl⟩
  simp only [hX, hY, hb, hR] at h1 h2 h3 h4 ⊢
  simp only [hS] at h3 h4
  clear hX hY hb hR hS
  go_enter Tryd.func10, Tryd.ntmps10
  go_wp2_with first
    | (go_at_call 7; with_reducible refine (h1 _).mono ?_; rintro e w' ⟨rfl, rfl⟩)
    | (go_at_call 7; with_reducible refine (h2 _).mono ?_; rintro e w' ⟨rfl, rfl⟩)
    | (go_at_call 14; refine (h4 _).mono ?_; rintro e w' ⟨rfl, rfl⟩)
  go_ret2
  exact ⟨rfl, rfl⟩
theorem pm_ex (m n u v : Int) (h : In m n) (h' : In u v) : Ex (m * u) ∧ Ex (n * v) ∧ Ex (m * v) ∧ Ex (n * u) ∧ Ex (m * u - n * v) ∧ Ex (m * v + n * u) := by
  unfold In at h h'
  have sq : ∀ a b : Int, a.natAbs ≤ 1048576 → b.natAbs ≤ 1048576 → (a * b).natAbs ≤ 1099511627776 := fun a b ha hb => by
    rw [Int.natAbs_mul]
    exact Nat.mul_le_mul ha hb
  have b1 := sq m u h.1 h'.1
  have b2 := sq n v h.2 h'.2
  have b3 := sq m v h.1 h'.2
  have b4 := sq n u h.2 h'.1
  unfold Ex
  omega
theorem mul_ok (m n u v : Int) (w : World) (h : In m n) (h' : In u v) : Calls Tryd.prog 9 #[Pv m n, Pv u v] w fun e w' =>
    e = .returned (.tuple #[if In (pm (m, n) (u, v)).1 (pm (m, n) (u, v)).2 then Pv (pm (m, n) (u, v)).1 (pm (m, n) (u, v)).2 else Pv 0 0, .bool (decide (In (pm (m, n) (u, v)).1 (pm (m, n) (u, v)).2))]) ∧ w = w' := by
  have h1 := fun W => may_true m n W h
  have h2 := fun W => may_true u v W h'
  obtain ⟨e1, e2, e3, e4, e5, e6⟩ := pm_ex m n u v h h'
  obtain ⟨p, q, h3⟩ := cmul false false false false m n u v h.ex.1 h.ex.2 h'.ex.1 h'.ex.2 e1 e2 e3 e4 e5 e6
  have h5 := plain_ok p q (m * u - n * v) (m * v + n * u) e5 e6
  have h4 := point_ok (m * u - n * v) (m * v + n * u) e5 e6
  rw [cv_pv, cv_pv] at h3
  show Calls Tryd.prog 9 #[Pv m n, Pv u v] w fun e w' =>
    e = .returned (.tuple #[if In (m * u - n * v) (m * v + n * u) then Pv (m * u - n * v) (m * v + n * u) else Pv 0 0, .bool (decide (In (m * u - n * v) (m * v + n * u)))]) ∧ w = w'
  generalize m * u - n * v = s at *
  generalize m * v + n * u = t at *
  obtain ⟨b, hb⟩ : ∃ b, decide (In s t) = b := ⟨_, rfl⟩
  obtain ⟨R, hR⟩ : ∃ R, (if In s t then Pv s t else Pv 0 0) = R := ⟨_, rfl⟩
  obtain ⟨X, hX⟩ : ∃ X, Pv m n = X := ⟨_, rfl⟩
  obtain ⟨Y, hY⟩ : ∃ Y, Pv u v = Y := ⟨_, rfl⟩
  obtain ⟨S, hS⟩ : ∃ S, Pv s t = S := ⟨_, rfl⟩
  obtain ⟨C, hC⟩ : ∃ C, Cv p s q t = C := ⟨_, rfl⟩
  simp only [hX, hY, hb, hR] at h1 h2 h3 h4 ⊢
  simp only [hS, hC] at h3 h4 h5
  clear hX hY hb hR hS hC
  go_enter Tryd.func9, Tryd.ntmps9
  go_wp2_with first
    | (go_at_call 7; with_reducible refine (h1 _).mono ?_; rintro e w' ⟨rfl, rfl⟩)
    | (go_at_call 7; with_reducible refine (h2 _).mono ?_; rintro e w' ⟨rfl, rfl⟩)
    | (go_at_call 17; refine (h5 _).mono ?_; rintro e w' ⟨rfl, rfl⟩)
    | (go_at_call 14; refine (h4 _).mono ?_; rintro e w' ⟨rfl, rfl⟩)
  go_ret2
  exact ⟨rfl, rfl⟩
/-- One half is no point's part. -/
theorem half_abs (w : World) : Calls Tryd.prog 24 #[.float .f64 4602678819172646912] w fun e w' => e = .returned (.float .f64 4602678819172646912) ∧ w = w' := by
  have b1 := bits_ext 4602678819172646912
  have b2 : ∀ W, (callFunc 34 #[.int .u64 4602678819172646912]).run Tryd.prog W = .ok (.value (.float .f64 4602678819172646912)) W := fun W => frombits_ext 4602678819172646912 W
  have b1' : ∀ W, (callFunc 33 #[.float .f64 4602678819172646912]).run Tryd.prog W = .ok (.value (.int .u64 4602678819172646912)) W := b1
  have hb : bits .andNot .u64 4602678819172646912 9223372036854775808 = 4602678819172646912 := by decide +kernel
  clear b1
  go_enter Tryd.func24, Tryd.ntmps24
  go_wp2_with fail
  go_ret
  exact ⟨rfl, rfl⟩
theorem half_trunc (w : World) : Calls Tryd.prog 25 #[.float .f64 4602678819172646912] w fun e w' => e = .returned (.float .f64 0) ∧ w = w' := by
  have b1 : ∀ W, (callFunc 35 #[.float .f64 4602678819172646912]).run Tryd.prog W = .ok (.value (.float .f64 0)) W := fun W => by
    rw [run_callFunc_extern (e := Extern.MathFloor.toIntegral "math.archTrunc" .zero) Tryd.func35 (by kernel_rfl) (by kernel_rfl) (by kernel_rfl) (by kernel_rfl)]
    kernel_rfl
  go_enter Tryd.func25, Tryd.ntmps25
  go_wp2_with fail
  go_ret
  exact ⟨rfl, rfl⟩
theorem half_part (w : World) : Calls Tryd.prog 16 #[.float .f64 4602678819172646912] w fun e w' => e = .returned (.bool false) ∧ w = w' := by
  have o1 : (FloatKind.f64.format.order 4602678819172646912 0 == some Ordering.eq) = false := by decide +kernel
  have o2 : (FloatKind.f64.format.order 4602678819172646912 4697254411347427328 == some Ordering.lt || FloatKind.f64.format.order 4602678819172646912 4697254411347427328 == some Ordering.eq) = true := by decide +kernel
  go_enter Tryd.func16, Tryd.ntmps16
  go_wp2_with first
    | (go_at_call 24; refine (half_abs _).mono ?_; rintro e w' ⟨rfl, rfl⟩)
    | (go_at_call 25; refine (half_trunc _).mono ?_; rintro e w' ⟨rfl, rfl⟩)
  go_ret
  exact ⟨rfl, rfl⟩
theorem half_may (w : World) : Calls Tryd.prog 7 #[.complex .f64 4602678819172646912 0] w fun e w' => e = .returned (.bool false) ∧ w = w' := by
  go_enter Tryd.func7, Tryd.ntmps7
  go_wp2_with (go_at_call 16; refine (half_part _).mono ?_; rintro e w' ⟨rfl, rfl⟩)
  go_ret
  exact ⟨rfl, rfl⟩
theorem half_norm (w : World) : Calls Tryd.prog 12 #[.complex .f64 4602678819172646912 0] w fun e w' => e = .returned (.int .i64 (-1)) ∧ w = w' := by
  go_enter Tryd.func12, Tryd.ntmps12
  go_wp2_with (go_at_call 7; refine (half_may _).mono ?_; rintro e w' ⟨rfl, rfl⟩)
  go_ret
  exact ⟨rfl, rfl⟩
/-- One turn. -/
theorem once (z y : Bool) (m n : Int) (h : In m n) : ∃ p q, ∀ (w : World) (t : TypeId), (binOp .mul t (Cv z m y n) (.complex .f64 0 4607182418800017408)).run Tryd.prog w = .ok (Cv p (-n) q m) w := by
  have e : Cv false 0 false 1 = .complex .f64 0 4607182418800017408 := by unfold Cv; rw [fw00, show Fl.fw false 1 = 4607182418800017408 by decide +kernel]
  obtain ⟨e1, e2, e3, e4, e5, e6⟩ := pm_ex m n 0 1 h (by unfold In; decide)
  obtain ⟨p, q, h3⟩ := cmul z y false false m n 0 1 h.ex.1 h.ex.2 (by decide) (by decide) e1 e2 e3 e4 e5 e6
  refine ⟨p, q, fun w t => ?_⟩
  have := h3 w t
  rw [e, show m * 0 - n * 1 = -n by omega, show m * 1 + n * 0 = m by omega] at this
  exact this
theorem rot_add : ∀ (i : Nat) (m n : Int), rot (i + 1) m n = (-(rot i m n).2, (rot i m n).1)
  | 0, m, n => rfl
  | i + 1, m, n => by rw [rot, rot_add i (-n) m, rot]
theorem rot_in : ∀ (i : Nat) (m n : Int), In m n → In (rot i m n).1 (rot i m n).2
  | 0, m, n, h => h
  | i + 1, m, n, h => by
    rw [rot]
    exact rot_in i (-n) m (by unfold In at h ⊢; omega)
theorem and_three (n : Int) : bits .and .i64 n 3 = n % 4 := by
  have hm : (BitVec.ofInt 64 3).toNat = 2 ^ 2 - 1 := by decide
  have key : (BitVec.ofInt 64 n &&& BitVec.ofInt 64 3).toNat = (n % ((2 ^ 64 : Nat) : Int)).toNat % 2 ^ 2 := by
    rw [BitVec.toNat_and, BitVec.toNat_ofInt, hm, Nat.and_two_pow_sub_one_eq_mod]
  show IntKind.i64.wrap ((BitVec.ofInt 64 n &&& BitVec.ofInt 64 3).toNat : Nat) = n % 4
  rw [key, IntKind.wrap_i64]
  omega
set_option maxHeartbeats 400000 in
theorem turn_ok (m n k : Int) (w : World) (h : In m n) (hk : (Lit.int .i64 k).wf = true) : Calls Tryd.prog 11 #[Pv m n, .int .i64 k] w fun e w' => e = .returned (Pv (turned k m n).1 (turned k m n).2) ∧ w = w' := by
  have h1 := fun W => may_true m n W h
  have hb := and_three k
  obtain ⟨K, hK⟩ : ∃ K, (k % 4).toNat = K := ⟨_, rfl⟩
  have hK4 : K < 4 := by omega
  have hkK : k % 4 = (K : Int) := by omega
  rw [hkK] at hb
  unfold turned
  rw [hK]
  obtain ⟨X, hX⟩ : ∃ X, Pv m n = X := ⟨_, rfl⟩
  rw [hX] at h1 ⊢
  go_enter Tryd.func11, Tryd.ntmps11
  go_wp2_with (go_at_call 7; refine (h1 _).mono ?_; rintro e w' ⟨rfl, rfl⟩)
  go_loop [0, 11] (fun c i => ∃ (j : Nat) (p q : Bool), j ≤ K ∧ i = .int .i64 j ∧ c = Cv p (rot j m n).1 q (rot j m n).2) (fun _ i => K - (intOf i).toNat)
  case atStart => exact ⟨0, false, false, Nat.zero_le _, rfl, hX.symm⟩
  case round =>
    obtain ⟨j, p, q, hj, rfl, hc⟩ := hrel
    by_cases hlt : j < K
    · obtain ⟨p', q', hm⟩ := once p q _ _ (rot_in j m n h)
      rw [← hc] at hm
      have hr := rot_add j m n
      obtain ⟨D, hD⟩ : ∃ D, Cv p' (-(rot j m n).2) q' (rot j m n).1 = D := ⟨_, rfl⟩
      simp only [hD] at hm
      have HC := Lib.hid hc
      have HD := Lib.hid hD
      clear hc hD
      go_wp2_with fail
      go_round
      case rel => exact ⟨j + 1, p', q', by omega, by go_num, by rw [hr]; exact HD.out.symm⟩
      case measure => simp [intOf]; omega
    · have e : j = K := by omega
      subst e
      have hi := rot_in j m n h
      have hp : ∀ W, Calls Tryd.prog 17 #[_] W _ := fun W => plain_ok p q _ _ hi.ex.1 hi.ex.2 W
      rw [← hc] at hp
      obtain ⟨R, hR⟩ : ∃ R, Pv (rot j m n).1 (rot j m n).2 = R := ⟨_, rfl⟩
      simp only [hR] at hp
      have HR := Lib.hid hR
      clear hc hX hR
      go_wp2_with (go_at_call 17; refine (hp _).mono ?_; rintro e w' ⟨rfl, rfl⟩)
      go_ret
      exact ⟨congrArg Ending.returned HR.out.symm, rfl⟩
theorem plane_ok : PlaneOk where
  may m n w h := (may_true m n w h).mono fun e w' x => ⟨x.1, below_of_eq (a := w) x.2⟩
  turn m n k w h hk := (turn_ok m n k w h hk).mono fun e w' x => ⟨x.1, below_of_eq (a := w) x.2⟩
  norm m n w h := (norm_ok m n w h).mono fun e w' x => ⟨x.1, below_of_eq (a := w) x.2⟩
  half w := (half_norm w).mono fun e w' x => ⟨x.1, below_of_eq (a := w) x.2⟩
  add m n u v w h h' := (add_ok m n u v w h h').mono fun e w' x => ⟨x.1, below_of_eq (a := w) x.2⟩
  mul m n u v w h h' := (mul_ok m n u v w h h').mono fun e w' x => ⟨x.1, below_of_eq (a := w) x.2⟩
end Go.Proofs.YtgcacpcjlbhniaaDoor
