/- The laws' own check 'told' and their points, out of what is asked of package plane. -/
import Derived.Test.YtgcacpcjlbhniaaDoorPlaneI
namespace Go.Proofs.YtgcacpcjlbhniaaDoor
open Go.RowKit
set_option linter.unusedVariables false
theorem pv_eq (m n : Int) (x y : Nat) (hx : x = Fl.fw false m) (hy : y = Fl.fw false n) : Value.complex .f64 x y = Pv m n := by rw [hx, hy]; rfl
theorem told_any (R : PlaneOk) (w : World) :
    Calls Tryd.prog 4 #[] w fun e w' => e = .returned (.bool true) ∧ Below w.heap.size w w' := by
  have p12 : Value.complex .f64 4607182418800017408 4611686018427387904 = Pv 1 2 := pv_eq 1 2 _ _ (by decide +kernel) (by decide +kernel)
  have p31 : Value.complex .f64 4613937818241073152 13830554455654793216 = Pv 3 (-1) := pv_eq 3 (-1) _ _ (by decide +kernel) (by decide +kernel)
  have p55 : Value.complex .f64 4617315517961601024 4617315517961601024 = Pv 5 5 := pv_eq 5 5 _ _ (by decide +kernel) (by decide +kernel)
  have pm0 : Value.complex .f64 4697254411347427328 0 = Pv 1048576 0 := pv_eq 1048576 0 _ _ (by decide +kernel) (by decide +kernel)
  have p10 : Value.complex .f64 4607182418800017408 0 = Pv 1 0 := pv_eq 1 0 _ _ (by decide +kernel) (by decide +kernel)
  have p00 : Value.complex .f64 0 0 = Pv 0 0 := pv_eq 0 0 _ _ (by decide +kernel) (by decide +kernel)
  have p21 : Value.complex .f64 13835058055282163712 4607182418800017408 = Pv (-2) 1 := pv_eq (-2) 1 _ _ (by decide +kernel) (by decide +kernel)
  have p34 : Value.complex .f64 4613937818241073152 4616189618054758400 = Pv 3 4 := pv_eq 3 4 _ _ (by decide +kernel) (by decide +kernel)
  have i55 : In 5 5 := by decide
  have i00 : In 0 0 := by decide
  have i21 : In (-2) 1 := by decide
  have q1 : ∀ W : World, (binOp .eql 25 (Pv 5 5) (.complex .f64 4617315517961601024 4617315517961601024)).run Tryd.prog W = .ok (.bool true) W := fun W => by rw [p55, run_equal W _ i55 i55]; rfl
  have q2 : ∀ W : World, (binOp .eql 25 (Pv 0 0) (.complex .f64 0 0)).run Tryd.prog W = .ok (.bool true) W := fun W => by rw [p00, run_equal W _ i00 i00]; rfl
  have q3 : ∀ W : World, (binOp .eql 25 (Pv (-2) 1) (.complex .f64 13835058055282163712 4607182418800017408)).run Tryd.prog W = .ok (.bool true) W := fun W => by rw [p21, run_equal W _ i21 i21]; rfl
  have hg := run_eqG
  have c1 : Hid (∀ W, Calls Tryd.prog 9 #[.complex .f64 4607182418800017408 4611686018427387904, .complex .f64 4613937818241073152 13830554455654793216] W fun e w' => e = .returned (.tuple #[Pv 5 5, .bool true]) ∧ Below W.heap.size W w') := fun W => by
    rw [p12, p31]; exact R.mul 1 2 3 (-1) W (by decide) (by decide)
  have c2 : Hid (∀ W, Calls Tryd.prog 10 #[.complex .f64 4697254411347427328 0, .complex .f64 4607182418800017408 0] W fun e w' => e = .returned (.tuple #[Pv 0 0, .bool false]) ∧ Below W.heap.size W w') := fun W => by
    rw [pm0, p10]; exact R.add 1048576 0 1 0 W (by decide) (by decide)
  have c3 : Hid (∀ W, Calls Tryd.prog 11 #[.complex .f64 4607182418800017408 4611686018427387904, .int .i64 1] W fun e w' => e = .returned (Pv (-2) 1) ∧ Below W.heap.size W w') := fun W => by
    rw [p12]; exact R.turn 1 2 1 W (by decide) (by decide)
  have c4 : Hid (∀ W, Calls Tryd.prog 12 #[.complex .f64 4613937818241073152 4616189618054758400] W fun e w' => e = .returned (.int .i64 25) ∧ Below W.heap.size W w') := fun W => by
    rw [p34]; exact R.norm 3 4 W (by decide)
  have c5 : Hid (∀ W, Calls Tryd.prog 12 #[.complex .f64 4602678819172646912 0] W fun e w' => e = .returned (.int .i64 (-1)) ∧ Below W.heap.size W w') := fun W => R.half W
  have HB : Hid (Below w.heap.size w w) := Below.refl _ w
  clear R p12 p31 p55 pm0 p10 p00 p21 p34 i55 i00 i21
  go_enter Tryd.func4, Tryd.ntmps4
  go_wp2_with (first
    | (go_at_call 9; with_reducible refine (c1.out _).mono ?_; rintro e w' ⟨rfl, hb⟩; have HB := Lib.hid (below_and HB.out hb); clear hb)
    | (go_at_call 10; with_reducible refine (c2.out _).mono ?_; rintro e w' ⟨rfl, hb⟩; have HB := Lib.hid (below_and HB.out hb); clear hb)
    | (go_at_call 11; with_reducible refine (c3.out _).mono ?_; rintro e w' ⟨rfl, hb⟩; have HB := Lib.hid (below_and HB.out hb); clear hb)
    | (go_at_call 12; with_reducible refine (c4.out _).mono ?_; rintro e w' ⟨rfl, hb⟩; have HB := Lib.hid (below_and HB.out hb); clear hb)
    | (go_at_call 12; with_reducible refine (c5.out _).mono ?_; rintro e w' ⟨rfl, hb⟩; have HB := Lib.hid (below_and HB.out hb); clear hb))
  go_ret
  exact ⟨rfl, HB.out⟩
end Go.Proofs.YtgcacpcjlbhniaaDoor
