/- Scores compared: cmp.Compare at int64 and at strings, cmp.Or, compareScores; slices.IsSortedFunc over them. -/
import Derived.Test.YtgokjdlemfaagaaVlSeq
import Derived.Deep.RegionHeld3
import Derived.Laws.Cover1
namespace Go.Proofs.Ytgokjdlemfaagaa
open Go.RowKit
set_option linter.unusedVariables false
def cmpI (a b : Int) : Int := if a < b then -1 else if b < a then 1 else 0
def cmpS (a b : ByteArray) : Int := if Op.bytesLess a.toList b.toList then -1 else if !Op.bytesLess a.toList b.toList && !(a.toList == b.toList) then 1 else 0
def cmpE (a b : ByteArray × Int) : Int := if cmpI a.2 b.2 = 0 then cmpS a.1 b.1 else cmpI a.2 b.2
theorem cmpE_less (a b : ByteArray × Int) : decide (cmpE a b < 0) = Vl.less a b := by
  unfold cmpE cmpI cmpS Vl.less
  rcases Int.lt_trichotomy a.2 b.2 with h | h | h
  · simp [h]
  · rw [h]
    cases k : Op.bytesLess a.1.toList b.1.toList
    · cases j : (a.1.toList == b.1.toList) <;> simp
    · simp
  · have h1 : ¬ a.2 < b.2 := by omega
    have h2 : ¬ a.2 = b.2 := by omega
    simp [h1, h2, h]
theorem nanI_any (w : World) (a : Int) : Calls Try.prog 60 #[.int .i64 a] w fun e w' => e = .returned (.bool false) ∧ w = w' := by
  go_enter Try.func60, Try.ntmps60
  go_wp2_with fail
  go_ret
  exact ⟨by simp, rfl⟩
theorem nanS_any (w : World) (a : ByteArray) : Calls Try.prog 61 #[.string a] w fun e w' => e = .returned (.bool false) ∧ w = w' := by
  go_enter Try.func61, Try.ntmps61
  go_wp2_with fail
  go_ret
  exact ⟨by simp, rfl⟩
set_option maxHeartbeats 1000000 in
theorem cmpI_any (w : World) (a b : Int) : Calls Try.prog 42 #[.int .i64 a, .int .i64 b] w fun e w' => e = .returned (.int .i64 (cmpI a b)) ∧ w = w' := by
  have na := fun w => nanI_any w a
  have nb := fun w => nanI_any w b
  unfold cmpI
  rcases Int.lt_trichotomy a b with h | h | h
  · rw [if_pos h]
    go_enter Try.func42, Try.ntmps42
    go_wp2_with (first
      | (go_at_call 60; with_reducible refine (na _).mono ?_; rintro e w' ⟨rfl, rfl⟩)
      | (go_at_call 60; with_reducible refine (nb _).mono ?_; rintro e w' ⟨rfl, rfl⟩))
    go_ret
    exact ⟨rfl, rfl⟩
  · subst h
    rw [if_neg (by omega), if_neg (by omega)]
    have h1 : a ≤ a := Int.le_refl _
    go_enter Try.func42, Try.ntmps42
    go_wp2_with (go_at_call 60; with_reducible refine (na _).mono ?_; rintro e w' ⟨rfl, rfl⟩)
    go_ret
    exact ⟨rfl, rfl⟩
  · have h1 : b ≤ a := by omega
    rw [if_neg (by omega), if_pos h]
    go_enter Try.func42, Try.ntmps42
    go_wp2_with (first
      | (go_at_call 60; with_reducible refine (na _).mono ?_; rintro e w' ⟨rfl, rfl⟩)
      | (go_at_call 60; with_reducible refine (nb _).mono ?_; rintro e w' ⟨rfl, rfl⟩))
    go_ret
    exact ⟨rfl, rfl⟩
set_option maxHeartbeats 1000000 in
theorem cmpS_any (w : World) (a b : ByteArray) : Calls Try.prog 43 #[.string a, .string b] w fun e w' => e = .returned (.int .i64 (cmpS a b)) ∧ w = w' := by
  have na := fun w => nanS_any w a
  have nb := fun w => nanS_any w b
  unfold cmpS
  obtain ⟨p, hp⟩ : ∃ p, Op.bytesLess a.toList b.toList = p := ⟨_, rfl⟩
  obtain ⟨q, hq⟩ : ∃ q, (a.toList == b.toList) = q := ⟨_, rfl⟩
  rw [hp, hq]
  cases p
  · cases q
    · go_enter Try.func43, Try.ntmps43
      go_wp2_with (first
        | (go_at_call 61; with_reducible refine (na _).mono ?_; rintro e w' ⟨rfl, rfl⟩)
        | (go_at_call 61; with_reducible refine (nb _).mono ?_; rintro e w' ⟨rfl, rfl⟩))
      go_ret
      exact ⟨rfl, rfl⟩
    · go_enter Try.func43, Try.ntmps43
      go_wp2_with (first
        | (go_at_call 61; with_reducible refine (na _).mono ?_; rintro e w' ⟨rfl, rfl⟩)
        | (go_at_call 61; with_reducible refine (nb _).mono ?_; rintro e w' ⟨rfl, rfl⟩))
      go_ret
      exact ⟨rfl, rfl⟩
  · go_enter Try.func43, Try.ntmps43
    go_wp2_with (first
      | (go_at_call 61; with_reducible refine (na _).mono ?_; rintro e w' ⟨rfl, rfl⟩)
      | (go_at_call 61; with_reducible refine (nb _).mono ?_; rintro e w' ⟨rfl, rfl⟩))
    go_ret
    exact ⟨rfl, rfl⟩
set_option maxRecDepth 20000 in
set_option maxHeartbeats 1000000 in
theorem or_any (w : World) (g : Nat) (x y : Int) (h0 : w.cell? ⟨g, 0, none⟩ = some (.int .i64 x)) (h1 : w.cell? ⟨g, 1, none⟩ = some (.int .i64 y)) :
    Calls Try.prog 41 #[.slice (some ⟨g, 0, none⟩) 2 2] w fun e w' => e = .returned (.int .i64 (if x = 0 then y else x)) ∧ w = w' := by
  by_cases hx : x = 0
  · subst hx
    rw [if_pos rfl]
    by_cases hy : y = 0
    · subst hy
      go_enter Try.func41, Try.ntmps41
      go_wp2_with fail
      refine wp_loop_rounds 3 ?_
      rw [rounds_succ]
      go_wp2_with fail
      rw [rounds_succ]
      go_wp2_with fail
      rw [rounds_succ]
      go_wp2_with fail
      go_ret
      exact ⟨rfl, rfl⟩
    · have hb : (y == 0) = false := beq_eq_false_iff_ne.2 hy
      go_enter Try.func41, Try.ntmps41
      go_wp2_with fail
      refine wp_loop_rounds 2 ?_
      rw [rounds_succ]
      go_wp2_with fail
      rw [rounds_succ]
      go_wp2_with fail
      go_ret
      exact ⟨rfl, rfl⟩
  · rw [if_neg hx]
    have hb : (x == 0) = false := beq_eq_false_iff_ne.2 hx
    go_enter Try.func41, Try.ntmps41
    go_wp2_with fail
    refine wp_loop_rounds 1 ?_
    rw [rounds_succ]
    go_wp2_with fail
    go_ret
    exact ⟨rfl, rfl⟩
set_option maxRecDepth 20000 in
set_option maxHeartbeats 2000000 in
theorem cmpE_any (w : World) (s t : ByteArray) (x y : Int) :
    Calls Try.prog 27 #[.agg #[.string s, .int .i64 x], .agg #[.string t, .int .i64 y]] w fun e w' => e = .returned (.int .i64 (cmpE (s, x) (t, y))) ∧ Below w.heap.size w w' := by
  have CI := fun w => cmpI_any w x y
  have CS := fun w => cmpS_any w s t
  have OR := fun w g h0 h1 => or_any w g (cmpI x y) (cmpS s t) h0 h1
  have e : cmpE (s, x) (t, y) = if cmpI x y = 0 then cmpS s t else cmpI x y := rfl
  rw [e]
  obtain ⟨p, hp⟩ : ∃ p, cmpI x y = p := ⟨_, rfl⟩
  obtain ⟨q, hq⟩ : ∃ q, cmpS s t = q := ⟨_, rfl⟩
  obtain ⟨r, hr⟩ : ∃ r, (if p = 0 then q else p) = r := ⟨_, rfl⟩
  simp only [hp, hq, hr] at CI CS OR ⊢
  clear hp hq e hr
  have s2 : Below w.heap.size w ((w.alloc (.cells #[.string s, .int .i64 x] 35)).alloc (.cells #[.string t, .int .i64 y] 35)).drew ∧ w.heap.size ≤ ((w.alloc (.cells #[.string s, .int .i64 x] 35)).alloc (.cells #[.string t, .int .i64 y] 35)).drew.heap.size ∧
      ((w.alloc (.cells #[.string s, .int .i64 x] 35)).alloc (.cells #[.string t, .int .i64 y] 35)).drew.cell? ⟨w.heap.size, 0, none⟩ = some (.string s) ∧ ((w.alloc (.cells #[.string s, .int .i64 x] 35)).alloc (.cells #[.string t, .int .i64 y] 35)).drew.cell? ⟨w.heap.size, 1, none⟩ = some (.int .i64 x) ∧
      ((w.alloc (.cells #[.string s, .int .i64 x] 35)).alloc (.cells #[.string t, .int .i64 y] 35)).drew.cell? ⟨w.heap.size + 1, 0, none⟩ = some (.string t) ∧ ((w.alloc (.cells #[.string s, .int .i64 x] 35)).alloc (.cells #[.string t, .int .i64 y] 35)).drew.cell? ⟨w.heap.size + 1, 1, none⟩ = some (.int .i64 y) :=
    ⟨(((Below.refl _ w).alloc (Nat.le_refl _) _).alloc (by simp) _).drew, by simp; omega, by simp, by simp, by simp, by simp⟩
  have s3 : ∀ (W : World) (o : Obj), (Below w.heap.size w W.drew ∧ w.heap.size ≤ W.drew.heap.size ∧ W.drew.cell? ⟨w.heap.size, 0, none⟩ = some (.string s) ∧ W.drew.cell? ⟨w.heap.size, 1, none⟩ = some (.int .i64 x) ∧ W.drew.cell? ⟨w.heap.size + 1, 0, none⟩ = some (.string t) ∧ W.drew.cell? ⟨w.heap.size + 1, 1, none⟩ = some (.int .i64 y)) →
      (Below w.heap.size w (W.alloc o).drew ∧ w.heap.size ≤ (W.alloc o).drew.heap.size ∧ (W.alloc o).drew.cell? ⟨w.heap.size, 0, none⟩ = some (.string s) ∧ (W.alloc o).drew.cell? ⟨w.heap.size, 1, none⟩ = some (.int .i64 x) ∧ (W.alloc o).drew.cell? ⟨w.heap.size + 1, 0, none⟩ = some (.string t) ∧ (W.alloc o).drew.cell? ⟨w.heap.size + 1, 1, none⟩ = some (.int .i64 y)) :=
    fun W o ⟨h1, h2, h3, h4, h5, h6⟩ => ⟨h1.alloc h2 o, Nat.le_trans h2 (by show W.heap.size ≤ (W.alloc o).heap.size; simp), cell_more (W := W.drew) o h3, cell_more (W := W.drew) o h4, cell_more (W := W.drew) o h5, cell_more (W := W.drew) o h6⟩
  have OR3 := OR (((w.alloc (.cells #[.string s, .int .i64 x] 35)).alloc (.cells #[.string t, .int .i64 y] 35)).alloc (.cells #[.int .i64 p, .int .i64 q] 3)).drew (w.heap.size + 1 + 1)
    (by
      have := World.cell?_alloc_new (w := (w.alloc (.cells #[.string s, .int .i64 x] 35)).alloc (.cells #[.string t, .int .i64 y] 35)) #[.int .i64 p, .int .i64 q] 3 0
      rw [World.size_alloc, World.size_alloc] at this
      exact this)
    (by
      have := World.cell?_alloc_new (w := (w.alloc (.cells #[.string s, .int .i64 x] 35)).alloc (.cells #[.string t, .int .i64 y] 35)) #[.int .i64 p, .int .i64 q] 3 1
      rw [World.size_alloc, World.size_alloc] at this
      exact this)
  clear OR
  have S2 := Lib.hid s2
  have S3 := Lib.hid (fun o => s3 _ o s2)
  clear s2 s3
  go_enter Try.func27, Try.ntmps27
  go_wp2_with fail
  go_region_held3 (fun W => Below w.heap.size w W ∧ w.heap.size ≤ W.heap.size ∧ W.cell? ⟨w.heap.size, 0, none⟩ = some (.string s) ∧ W.cell? ⟨w.heap.size, 1, none⟩ = some (.int .i64 x) ∧ W.cell? ⟨w.heap.size + 1, 0, none⟩ = some (.string t) ∧ W.cell? ⟨w.heap.size + 1, 1, none⟩ = some (.int .i64 y)) (first | assumption | exact S2.out | exact S3.out _) (first
    | (go_at_call 42; with_reducible refine (CI _).mono ?_; rintro e w' ⟨rfl, rfl⟩)
    | (go_at_call 43; with_reducible refine (CS _).mono ?_; rintro e w' ⟨rfl, rfl⟩)
    | (go_at_call 41; refine OR3.mono ?_; rintro e w' ⟨rfl, rfl⟩))
  all_goals
    go_wp2_with fail
    go_ret
    exact ⟨rfl, (S3.out _).1⟩
end Go.Proofs.Ytgokjdlemfaagaa
