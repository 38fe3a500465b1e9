/- Package skip: the height of a name with a number lies between one and twenty. -/
import Derived.Test.YtopnbfhkfagemaaDoorSkFn
import Derived.Lib.LaidTab
import Derived.Lib.TrailingZeros
import Derived.Lib.SmallJoins
import Derived.Laws.Bits64b
namespace Go.Proofs.YtopnbfhkfagemaaDoor
open Go.RowKit
set_option linter.unusedVariables false
/-- The library's table, in its own words. -/
def tzTab : List Int := Lib.deBruijn64tab.map fun n : Nat => (n : Int)
theorem gTz : Tryd.prog.globalNamed "math/bits.deBruijn64tab" = some 0 := by kernel_rfl
theorem tz_all : ∀ i : Fin 64, ∃ k : Fin 64, tzTab.getD i.val 0 = (k.val : Int) := by decide +kernel
/-- The library's table holds numbers below 64. -/
def Tz (w : World) : Prop := ∀ i, i < 64 → ∃ k : Nat, k < 64 ∧ w.cell? ⟨0, i, none⟩ = some (.int .u8 (k : Int))
theorem Tz.of {w : World} (h : Lib.TabIs Tryd.prog w "math/bits.deBruijn64tab" .u8 tzTab) : Tz w := fun i hi => by
  obtain ⟨k, hk⟩ := tz_all ⟨i, hi⟩
  have := Lib.TabIs.cell h gTz i (show i < tzTab.length from hi)
  rw [show tzTab.getD i 0 = (k.val : Int) from hk] at this
  exact ⟨k.val, k.isLt, this⟩
theorem Tz.lt {w : World} (h : Tz w) : 0 < w.heap.size := by
  obtain ⟨k, -, hc⟩ := h 0 (by decide)
  exact cell_in hc
theorem Tz.same {w w' : World} (h : Tz w) (k : w'.heap[0]? = w.heap[0]?) : Tz w' := fun i hi => by
  obtain ⟨j, hj, hc⟩ := h i hi
  exact ⟨j, hj, (World.cell?_of_block k).trans hc⟩
theorem Tz.below {w w' : World} (h : Tz w) (hb : Below w.heap.size w w') : Tz w' := h.same (hb.block _ h.lt)
theorem tz_key (x : Int) : ∃ i : Nat, i < 64 ∧ IntKind.u64.wrap (bits .and .u64 x (IntKind.u64.wrap (-x)) * 285870213051353865) / 288230376151711744 = (i : Int) := by
  rw [IntKind.wrap_u64 (bits .and .u64 x (IntKind.u64.wrap (-x)) * 285870213051353865)]
  obtain ⟨y, hy⟩ : ∃ y, bits .and .u64 x (IntKind.u64.wrap (-x)) * 285870213051353865 % 18446744073709551616 = y := ⟨_, rfl⟩
  have y0 : 0 ≤ y := by rw [← hy]; exact Int.emod_nonneg _ (by decide)
  have y1 : y < 18446744073709551616 := by rw [← hy]; exact Int.emod_lt_of_pos _ (by decide)
  rw [hy]
  exact ⟨(y / 288230376151711744).toNat, by omega, by omega⟩
theorem tz_any (w : World) (x : Int) (h : Tz w) : Calls Tryd.prog 43 #[.int .u64 x] w fun e w' => (∃ k : Nat, e = .returned (.int .i64 (k : Int)) ∧ k ≤ 64) ∧ w' = w := by
  obtain ⟨i, hi, key⟩ := tz_key x
  obtain ⟨k, hk, hc⟩ := h i hi
  have HK := Lib.hid hk
  have k0 : (k : Int) < 64 := by omega
  clear h hk
  by_cases hx : x = 0
  · subst hx
    go_enter Tryd.func43, Tryd.ntmps43
    go_wp2_with fail
    go_ret
    exact ⟨⟨64, rfl, Nat.le_refl _⟩, rfl⟩
  · have hx0 : (x == 0) = false := by simpa using hx
    go_enter Tryd.func43, Tryd.ntmps43
    go_wp2_with (simp only [key])
    go_ret
    exact ⟨⟨k, rfl, by have := HK.out; omega⟩, rfl⟩
theorem height_any (w : World) (x : Int) (h : Tz w) : Calls Tryd.prog 39 #[.int .u64 x] w fun e w' => (∃ k : Nat, e = .returned (.int .i64 (k : Int)) ∧ 1 ≤ k ∧ k ≤ 20) ∧ Below w.heap.size w w' := by
  have H := Lib.hid h
  clear h
  go_enter Tryd.func39, Tryd.ntmps39
  go_wp2_with fail
  go_at_call 43
  refine (tz_any _ _ H.out).mono ?_
  rintro e w' ⟨⟨k, rfl, hk⟩, rfl⟩
  have q : wrap64 ((k : Int) / 2) = ((k / 2 : Nat) : Int) := by
    unfold wrap64; omega
  obtain ⟨j, hj⟩ : ∃ j, k / 2 = j := ⟨_, rfl⟩
  rw [hj] at q
  have hj9 : j ≤ 32 := by omega
  have j0 : (j : Int) ≤ 32 := by omega
  by_cases hc : j < 20
  · have hc1 : 1 + (j : Int) ≤ 20 := by omega
    have HC : Hid (j < 20) := hc
    clear hk hj hj9 hc
    go_wp2_with fail
    go_ret
    exact ⟨⟨1 + j, by go_num, by omega, by have := HC.out; omega⟩, Below.refl _ _⟩
  · have hc1 : 20 < 1 + (j : Int) := by omega
    clear hk hj hj9 hc
    go_wp2_with fail
    go_ret
    exact ⟨⟨20, rfl, by decide, by decide⟩, Below.refl _ _⟩
end Go.Proofs.YtopnbfhkfagemaaDoor
