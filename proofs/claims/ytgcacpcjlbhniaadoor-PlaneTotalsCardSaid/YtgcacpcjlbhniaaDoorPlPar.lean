/- Package plane reads points of numbers' texts. -/
import Derived.Test.YtgcacpcjlbhniaaDoorNum
import Derived.Test.YtgcacpcjlbhniaaDoorTotI
import Derived.Test.YtgcacpcjlbhniaaDoorPlaneOk
namespace Go.Proofs.YtgcacpcjlbhniaaDoor
open Go.RowKit
set_option linter.unusedVariables false
theorem pback (n : Int) (n1 : -9223372036854775808 ≤ n) (n2 : n ≤ 9223372036854775807) (w : World) :
    Calls Tryd.prog 13 #[.string ⟨(Lib.itoa n).toArray⟩] w fun e w' => e = .returned (.tuple #[.int .i64 n, .bool true]) ∧ w = w' := by
  have hl := Lib.itoa_length_le n n1 n2
  have h := parse_any ⟨(Lib.itoa n).toArray⟩ w (by unfold maxLen; show (Lib.itoa n).toArray.size ≤ _; simp; omega)
  have e : ps ((Lib.itoa n).toArray.toList) = (n, true) := by rw [List.toList_toArray]; exact ps_itoa n n1 n2
  rw [e] at h
  exact h
theorem parse_ok (m n : Int) (w : World) (h : In m n) : Calls Tryd.prog 5 #[.string ⟨(Lib.itoa m).toArray⟩, .string ⟨(Lib.itoa n).toArray⟩] w fun e w' => e = .returned (.tuple #[Pv m n, .bool true]) ∧ w = w' := by
  have q := h
  unfold In at q
  have h1 := pback m (by omega) (by omega)
  have h2 := pback n (by omega) (by omega)
  have h3 := point_ok m n h.ex.1 h.ex.2
  rw [if_pos h, decide_eq_true h] at h3
  have c1 : ∀ W : World, (convert 2 29 (.int .i64 m)).run Tryd.prog W = .ok (.float .f64 (Fl.fw false m)) W := fun W => by
    rw [run_convert_int_float W 2 29 .i64 .f64 m (by kernel_rfl) (by kernel_rfl), Fl.ofInt_fw]
  have c2 : ∀ W : World, (convert 2 29 (.int .i64 n)).run Tryd.prog W = .ok (.float .f64 (Fl.fw false n)) W := fun W => by
    rw [run_convert_int_float W 2 29 .i64 .f64 n (by kernel_rfl) (by kernel_rfl), Fl.ofInt_fw]
  generalize (⟨(Lib.itoa m).toArray⟩ : ByteArray) = s at *
  generalize (⟨(Lib.itoa n).toArray⟩ : ByteArray) = t at *
  unfold Pv at h3 ⊢
  generalize Fl.fw false m = X at *
  generalize Fl.fw false n = Y at *
  clear q h
  go_enter Tryd.func5, Tryd.ntmps5
  go_wp2_with first
    | (go_at_call 13; with_reducible refine (h1 _).mono ?_; rintro e w' ⟨rfl, rfl⟩)
    | (go_at_call 13; with_reducible refine (h2 _).mono ?_; rintro e w' ⟨rfl, rfl⟩)
    | (go_at_call 14; refine (h3 _).mono ?_; rintro e w' ⟨rfl, rfl⟩)
  go_ret2
  exact ⟨rfl, rfl⟩
end Go.Proofs.YtgcacpcjlbhniaaDoor
