/- Complex numbers of whole parts, with signs at their zeros: sums, products; May, point, plainZeros, conjugate, squares. -/
import Derived.Test.YtgcacpcjlbhniaaDoorPlPart
import Derived.Laws.ComplexArith
namespace Go.Proofs.YtgcacpcjlbhniaaDoor
open Go.RowKit
set_option linter.unusedVariables false
/-- The complex number of two whole parts, with signs at zeros. -/
def Cv (z : Bool) (m : Int) (y : Bool) (n : Int) : Value := .complex .f64 (Fl.fw z m) (Fl.fw y n)
theorem cv_pv (m n : Int) : Cv false m false n = Pv m n := rfl
/-- Parts that are exact. -/
abbrev Ex (n : Int) : Prop := n.natAbs < 9007199254740992
theorem cmul (z y x v : Bool) (m n u k : Int) (hm : Ex m) (hn : Ex n) (hu : Ex u) (hk : Ex k) (h1 : Ex (m * u)) (h2 : Ex (n * k)) (h3 : Ex (m * k)) (h4 : Ex (n * u)) (h5 : Ex (m * u - n * k)) (h6 : Ex (m * k + n * u)) :
    ∃ p q, ∀ (w : World) (t : TypeId), (binOp .mul t (Cv z m y n) (Cv x u v k)).run Tryd.prog w = .ok (Cv p (m * u - n * k) q (m * k + n * u)) w := by
  refine ⟨Fl.sg (Fl.sg z m ^^ Fl.sg x u) (m * u) && !Fl.sg (Fl.sg y n ^^ Fl.sg v k) (n * k), Fl.sg (Fl.sg z m ^^ Fl.sg v k) (m * k) && Fl.sg (Fl.sg y n ^^ Fl.sg x u) (n * u), fun w t => ?_⟩
  refine run_complex_mul w t _ _ _ _ _ _ ?_
  unfold cMulBits
  rw [Fl.mul_fw z x m u hm hu h1, Fl.mul_fw y v n k hn hk h2, Fl.mul_fw z v m k hm hk h3, Fl.mul_fw y x n u hn hu h4]
  simp only [Option.bind_some]
  rw [Fl.sub_fw _ _ _ _ h1 h2 h5, Fl.add_fw _ _ _ _ h3 h4 h6]
  rfl
theorem cadd (z y x v : Bool) (m n u k : Int) (hm : Ex m) (hn : Ex n) (hu : Ex u) (hk : Ex k) (h5 : Ex (m + u)) (h6 : Ex (n + k)) (w : World) (t : TypeId) :
    (binOp .add t (Cv z m y n) (Cv x u v k)).run Tryd.prog w = .ok (Cv (Fl.sg z m && Fl.sg x u) (m + u) (Fl.sg y n && Fl.sg v k) (n + k)) w := by
  refine run_complex_sum w .add (.inl rfl) t .f64 _ _ _ _ _ _ ?_
  unfold cSumBits
  rw [Fl.add_fw z x m u hm hu h5, Fl.add_fw y v n k hn hk h6]
  rfl
theorem fw_irr (z y : Bool) (n : Int) (h : n = 0 → z = y) : Fl.fw z n = Fl.fw y n := by
  unfold Fl.fw
  by_cases e : n = 0
  · rw [if_pos e, if_pos e, h e]
  · rw [if_neg e, if_neg e]
theorem cadd_pv (m n u k : Int) (h : In m n) (h' : In u k) (w : World) (t : TypeId) : (binOp .add t (Pv m n) (Pv u k)).run Tryd.prog w = .ok (Pv (m + u) (n + k)) w := by
  have a := h.lt; have b := h'.lt
  unfold In at h h'
  have c := cadd false false false false m n u k a.1 a.2 b.1 b.2 (by omega) (by omega) w t
  rw [cv_pv, cv_pv] at c
  rw [c, ← cv_pv]
  unfold Cv
  have e : ∀ p q : Int, p + q = 0 → (Fl.sg false p && Fl.sg false q) = false := fun p q hpq => by
    unfold Fl.sg
    by_cases e : p = 0
    · rw [if_pos e]; rfl
    · rw [if_neg e, if_neg (show ¬ q = 0 by omega)]
      rcases (by omega : p < 0 ∨ q < 0) with c | c
      · rw [decide_eq_false (show ¬ q < 0 by omega), Bool.and_false]
      · rw [decide_eq_false (show ¬ p < 0 by omega)]; rfl
  rw [fw_irr _ false _ (e m u), fw_irr _ false _ (e n k)]
theorem zeros_run (p q : Bool) (m n : Int) (hm : Ex m) (hn : Ex n) (w : World) (t : TypeId) : (binOp .add t (Cv p m q n) (.complex .f64 0 0)).run Tryd.prog w = .ok (Pv m n) w := by
  have c := cadd p q false false m n 0 0 hm hn (by decide) (by decide) (by rw [Int.add_zero]; exact hm) (by rw [Int.add_zero]; exact hn) w t
  have e : Cv false 0 false 0 = .complex .f64 0 0 := by unfold Cv; rw [fw00]
  have z : Fl.sg false 0 = false := rfl
  rw [e, Int.add_zero, Int.add_zero, z, Bool.and_false, Bool.and_false] at c
  exact c
theorem plain_ok (p q : Bool) (m n : Int) (hm : Ex m) (hn : Ex n) (w : World) :
    Calls Tryd.prog 17 #[Cv p m q n] w fun e w' => e = .returned (Pv m n) ∧ w = w' := by
  have h := zeros_run p q m n hm hn
  obtain ⟨X, hX⟩ : ∃ X, Cv p m q n = X := ⟨_, rfl⟩
  obtain ⟨Y, hY⟩ : ∃ Y, Pv m n = Y := ⟨_, rfl⟩
  simp only [hX, hY] at h ⊢
  clear hX hY
  go_enter Tryd.func17, Tryd.ntmps17
  go_wp2_with fail
  go_ret
  exact ⟨rfl, rfl⟩
theorem may_fw (p q : Bool) (m n : Int) (hm : Ex m) (hn : Ex n) (w : World) :
    Calls Tryd.prog 7 #[Cv p m q n] w fun e w' => e = .returned (.bool (okp p m && okp q n)) ∧ w = w' := by
  have h1 := part_fw p m hm
  have h2 := part_fw q n hn
  unfold Cv
  obtain ⟨X, hX⟩ : ∃ X, Fl.fw p m = X := ⟨_, rfl⟩
  obtain ⟨Y, hY⟩ : ∃ Y, Fl.fw q n = Y := ⟨_, rfl⟩
  obtain ⟨a, ha⟩ : ∃ a, okp p m = a := ⟨_, rfl⟩
  obtain ⟨b, hb⟩ : ∃ b, okp q n = b := ⟨_, rfl⟩
  simp only [hX, hY, ha, hb] at h1 h2 ⊢
  clear hX hY ha hb
  cases a
  · go_enter Tryd.func7, Tryd.ntmps7
    go_wp2_with (go_at_call 16; with_reducible refine (h1 _).mono ?_; rintro e w' ⟨rfl, rfl⟩)
    go_ret
    exact ⟨rfl, rfl⟩
  · cases b
    · go_enter Tryd.func7, Tryd.ntmps7
      go_wp2_with first
        | (go_at_call 16; with_reducible refine (h1 _).mono ?_; rintro e w' ⟨rfl, rfl⟩)
        | (go_at_call 16; with_reducible refine (h2 _).mono ?_; rintro e w' ⟨rfl, rfl⟩)
      go_ret
      exact ⟨rfl, rfl⟩
    · go_enter Tryd.func7, Tryd.ntmps7
      go_wp2_with first
        | (go_at_call 16; with_reducible refine (h1 _).mono ?_; rintro e w' ⟨rfl, rfl⟩)
        | (go_at_call 16; with_reducible refine (h2 _).mono ?_; rintro e w' ⟨rfl, rfl⟩)
      go_ret
      exact ⟨rfl, rfl⟩
theorem okp_in (m n : Int) : (okp false m && okp false n) = decide (In m n) := by
  unfold okp In
  simp only [Bool.and_false, Bool.not_false, Bool.and_true]
  exact (Bool.decide_and _ _).symm
theorem may_pv (m n : Int) (hm : Ex m) (hn : Ex n) (w : World) :
    Calls Tryd.prog 7 #[Pv m n] w fun e w' => e = .returned (.bool (decide (In m n))) ∧ w = w' := by
  rw [← okp_in]
  exact may_fw false false m n hm hn w
theorem point_ok (m n : Int) (hm : Ex m) (hn : Ex n) (w : World) :
    Calls Tryd.prog 14 #[Pv m n] w fun e w' => e = .returned (.tuple #[if In m n then Pv m n else Pv 0 0, .bool (decide (In m n))]) ∧ w = w' := by
  have h := may_pv m n hm hn
  have e0 : Pv 0 0 = .complex .f64 0 0 := by unfold Pv; rw [fw00]
  rw [e0]
  obtain ⟨X, hX⟩ : ∃ X, Pv m n = X := ⟨_, rfl⟩
  simp only [hX] at h ⊢
  clear hX
  by_cases c : In m n
  · simp only [c, if_true, decide_true] at h ⊢
    go_enter Tryd.func14, Tryd.ntmps14
    go_wp2_with (go_at_call 7; refine (h _).mono ?_; rintro e w' ⟨rfl, rfl⟩)
    go_ret2
    exact ⟨rfl, rfl⟩
  · simp only [c, if_false, decide_false] at h ⊢
    go_enter Tryd.func14, Tryd.ntmps14
    go_wp2_with (go_at_call 7; refine (h _).mono ?_; rintro e w' ⟨rfl, rfl⟩)
    go_ret2
    exact ⟨rfl, rfl⟩
theorem conj_ok (p q : Bool) (m n : Int) (hm : Ex m) (hn : Ex n) (w : World) :
    Calls Tryd.prog 26 #[Cv p m q n] w fun e w' => e = .returned (Cv p m (!q) (-n)) ∧ w = w' := by
  have h := Fl.neg_fw q n hn
  unfold Cv
  obtain ⟨X, hX⟩ : ∃ X, Fl.fw p m = X := ⟨_, rfl⟩
  obtain ⟨Y, hY⟩ : ∃ Y, Fl.fw q n = Y := ⟨_, rfl⟩
  obtain ⟨Z, hZ⟩ : ∃ Z, Fl.fw (!q) (-n) = Z := ⟨_, rfl⟩
  simp only [hX, hY, hZ] at h ⊢
  clear hX hY hZ
  have un : ∀ W : World, (Op.unary .neg (.float .f64 Y)).run Tryd.prog W = .ok (.float .f64 Z) W := fun W => by rw [← h]; rfl
  go_enter Tryd.func26, Tryd.ntmps26
  go_wp2_with fail
  go_ret
  exact ⟨rfl, rfl⟩
theorem squares_ok (m n : Int) (hm : m.natAbs ≤ 4194304) (hn : n.natAbs ≤ 4194304) (w : World) :
    Calls Tryd.prog 18 #[Pv m n] w fun e w' => e = .returned (.int .i64 (m * m + n * n)) ∧ w = w' := by
  have sq : ∀ a b : Int, a.natAbs ≤ 4194304 → b.natAbs ≤ 4194304 → (a * b).natAbs ≤ 17592186044416 := fun a b ha hb => by
    rw [Int.natAbs_mul]
    exact Nat.mul_le_mul ha hb
  have b1 := sq m m hm hm
  have b2 := sq n n hn hn
  have b3 := sq m n hm hn
  have b4 := sq n m hn hm
  obtain ⟨p, q, hmul⟩ := cmul false false false true m n m (-n) (by unfold Ex; omega) (by unfold Ex; omega) (by unfold Ex; omega) (by unfold Ex; omega) (by unfold Ex; omega)
    (by unfold Ex; rw [Int.mul_neg]; omega) (by unfold Ex; rw [Int.mul_neg]; omega) (by unfold Ex; omega) (by unfold Ex; rw [Int.mul_neg]; omega) (by unfold Ex; rw [Int.mul_neg]; omega)
  have hc := conj_ok false false m n (by unfold Ex; omega) (by unfold Ex; omega)
  have e : m * m - n * -n = m * m + n * n := by rw [Int.mul_neg]; omega
  rw [e] at hmul
  have hi : floatToIntVal .f64 (Fl.fw p (m * m + n * n)) .i64 = some (m * m + n * n) := Fl.int_fw p _ (by omega)
  have cv : ∀ W : World, (convert 29 2 (.float .f64 (Fl.fw p (m * m + n * n)))).run Tryd.prog W = .ok (.int .i64 (m * m + n * n)) W := fun W =>
    run_convert_float_int W 29 2 .f64 .i64 _ _ (by kernel_rfl) Tryd.underlying2 hi
  rw [cv_pv] at hc hmul
  simp only [Bool.not_false] at hc
  obtain ⟨X, hX⟩ : ∃ X, Pv m n = X := ⟨_, rfl⟩
  obtain ⟨Y, hY⟩ : ∃ Y, Cv false m true (-n) = Y := ⟨_, rfl⟩
  simp only [hX, hY] at hc hmul ⊢
  unfold Cv at hmul
  generalize m * m + n * n = s at *
  generalize Fl.fw p s = F at *
  generalize Fl.fw q (m * -n + n * m) = G at *
  clear hX hY b1 b2 b3 b4 sq e hi
  go_enter Tryd.func18, Tryd.ntmps18
  go_wp2_with (go_at_call 26; refine (hc _).mono ?_; rintro e w' ⟨rfl, rfl⟩)
  go_ret
  exact ⟨rfl, rfl⟩
end Go.Proofs.YtgcacpcjlbhniaaDoor
