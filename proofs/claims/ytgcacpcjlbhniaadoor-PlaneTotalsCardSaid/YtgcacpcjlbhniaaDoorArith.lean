/- The contracts of the five arithmetic functions of package ints: what each of them returns for any two int64, in words of plain integers; no function changes memory. -/
import Derived.Test.YtgcacpcjlbhniaaDoorRows
import Derived.WalkKit
import Derived.WalkSpells
import Derived.WalkLawsBesides
namespace Go.Proofs.YtgcacpcjlbhniaaDoor
open Go.RowKit

/-- Does it fit int64? -/
def fitB (x : Int) : Bool := decide (-9223372036854775808 ≤ x ∧ x ≤ 9223372036854775807)
/-- Itself if it fits, else none. -/
def fitV (x : Int) : Int := if fitB x = true then x else 0
theorem fitB_yes {x : Int} (h : -9223372036854775808 ≤ x ∧ x ≤ 9223372036854775807) : fitB x = true := by unfold fitB; exact decide_eq_true h
theorem fitB_no {x : Int} (h : x < -9223372036854775808 ∨ 9223372036854775807 < x) : fitB x = false := by
  unfold fitB; exact decide_eq_false (by omega)
theorem fitV_yes {x : Int} (h : -9223372036854775808 ≤ x ∧ x ≤ 9223372036854775807) : fitV x = x := by unfold fitV; rw [if_pos (fitB_yes h)]
theorem fitV_no {x : Int} (h : x < -9223372036854775808 ∨ 9223372036854775807 < x) : fitV x = 0 := by
  unfold fitV; rw [fitB_no h]; rfl

def addV (a b : Int) : Int := fitV (a + b)
def addB (a b : Int) : Bool := fitB (a + b)
def subV (a b : Int) : Int := fitV (a - b)
def subB (a b : Int) : Bool := fitB (a - b)
def mulV (a b : Int) : Int := fitV (a * b)
def mulB (a b : Int) : Bool := fitB (a * b)
def divV (a b : Int) : Int := if b = 0 then 0 else fitV (a.fdiv b)
def divB (a b : Int) : Bool := if b = 0 then false else fitB (a.fdiv b)
def modV (a b : Int) : Int := if b = 0 then 0 else a.fmod b
def modB (b : Int) : Bool := !decide (b = 0)

theorem tup2 {a b : Int} {p q : Bool} (h : a = b) (k : p = q) : Ending.returned (.tuple #[.int .i64 a, .bool p]) = .returned (.tuple #[.int .i64 b, .bool q]) := by rw [h, k]

theorem wf_lo {a : Int} (h : (Lit.int .i64 a).wf = true) : -9223372036854775808 ≤ a := by
  simp only [Lit.wf, Bool.and_eq_true, decide_eq_true_eq] at h; exact h.1
theorem wf_hi {a : Int} (h : (Lit.int .i64 a).wf = true) : a ≤ 9223372036854775807 := by
  simp only [Lit.wf, Bool.and_eq_true, decide_eq_true_eq] at h; exact h.2
theorem wf_of {a : Int} (h : -9223372036854775808 ≤ a) (k : a ≤ 9223372036854775807) : (Lit.int .i64 a).wf = true := by
  simp only [Lit.wf, Bool.and_eq_true, decide_eq_true_eq]; exact ⟨h, k⟩
theorem fitV_wf (x : Int) : (Lit.int .i64 (fitV x)).wf = true := by
  unfold fitV fitB
  split
  · rename_i h; simp only [decide_eq_true_eq] at h; exact wf_of h.1 h.2
  · exact wf_of (by omega) (by omega)

theorem ne_iff {p q : Prop} [Decidable p] [Decidable q] (h : (!decide p == decide q) = true) : ¬ (p ↔ q) := by
  by_cases k : p <;> by_cases l : q <;> simp [k, l] at h ⊢
theorem eq_iff {p q : Prop} [Decidable p] [Decidable q] (h : (!decide p == decide q) = false) : (p ↔ q) := by
  by_cases k : p <;> by_cases l : q <;> simp [k, l] at h ⊢

theorem add_over {a b : Int} (a1 : -9223372036854775808 ≤ a) (a2 : a ≤ 9223372036854775807) (b1 : -9223372036854775808 ≤ b) (b2 : b ≤ 9223372036854775807)
    (h : (!decide (wrap64 (a + b) < a) == decide (b < 0)) = true) : 0 = addV a b ∧ false = addB a b := by
  have h' := ne_iff h
  have o : a + b < -9223372036854775808 ∨ 9223372036854775807 < a + b := by unfold wrap64 at h'; omega
  exact ⟨(fitV_no o).symm, (fitB_no o).symm⟩
theorem add_fits {a b : Int} (a1 : -9223372036854775808 ≤ a) (a2 : a ≤ 9223372036854775807) (b1 : -9223372036854775808 ≤ b) (b2 : b ≤ 9223372036854775807)
    (h : (!decide (wrap64 (a + b) < a) == decide (b < 0)) = false) : wrap64 (a + b) = addV a b ∧ true = addB a b := by
  have h' := eq_iff h
  have o : -9223372036854775808 ≤ a + b ∧ a + b ≤ 9223372036854775807 := by unfold wrap64 at h'; omega
  exact ⟨by rw [addV, fitV_yes o]; unfold wrap64; omega, (fitB_yes o).symm⟩
theorem sub_over {a b : Int} (a1 : -9223372036854775808 ≤ a) (a2 : a ≤ 9223372036854775807) (b1 : -9223372036854775808 ≤ b) (b2 : b ≤ 9223372036854775807)
    (h : (!decide (a < wrap64 (a - b)) == decide (b < 0)) = true) : 0 = subV a b ∧ false = subB a b := by
  have h' := ne_iff h
  have o : a - b < -9223372036854775808 ∨ 9223372036854775807 < a - b := by unfold wrap64 at h'; omega
  exact ⟨(fitV_no o).symm, (fitB_no o).symm⟩
theorem sub_fits {a b : Int} (a1 : -9223372036854775808 ≤ a) (a2 : a ≤ 9223372036854775807) (b1 : -9223372036854775808 ≤ b) (b2 : b ≤ 9223372036854775807)
    (h : (!decide (a < wrap64 (a - b)) == decide (b < 0)) = false) : wrap64 (a - b) = subV a b ∧ true = subB a b := by
  have h' := eq_iff h
  have o : -9223372036854775808 ≤ a - b ∧ a - b ≤ 9223372036854775807 := by unfold wrap64 at h'; omega
  exact ⟨by rw [subV, fitV_yes o]; unfold wrap64; omega, (fitB_yes o).symm⟩

/-- What the quotient towards zero and its rest are good for. -/
theorem tdm (a b : Int) (hb : b ≠ 0) : b * a.tdiv b + a.tmod b = a ∧ (0 ≤ a → 0 ≤ a.tmod b) ∧ (a ≤ 0 → a.tmod b ≤ 0) ∧ (0 < b → -b < a.tmod b ∧ a.tmod b < b) ∧ (b < 0 → b < a.tmod b ∧ a.tmod b < -b) := by
  have e := Int.mul_tdiv_add_tmod a b
  have n : (a.tmod b).natAbs = a.natAbs % b.natAbs := Int.natAbs_tmod a b
  have l : a.natAbs % b.natAbs < b.natAbs := Nat.mod_lt _ (by omega)
  refine ⟨e, fun h => Int.tmod_nonneg b h, fun h => ?_, fun h => by omega, fun h => by omega⟩
  have k := Int.tmod_nonneg b (a := -a) (by omega)
  rw [Int.neg_tmod] at k
  omega
theorem tdiv_m1 (a : Int) : a.tdiv (-1) = -a := by rw [Int.tdiv_neg, Int.tdiv_one]
theorem tdiv_fits {a b : Int} (a1 : -9223372036854775808 ≤ a) (a2 : a ≤ 9223372036854775807) (h0 : b ≠ 0) (h1 : b = -1 → a ≠ -9223372036854775808) :
    -9223372036854775808 ≤ a.tdiv b ∧ a.tdiv b ≤ 9223372036854775807 := by
  by_cases h : b = 1
  · subst h; rw [Int.tdiv_one]; exact ⟨a1, a2⟩
  · by_cases h' : b = -1
    · have := h1 h'
      subst h'; rw [tdiv_m1]; omega
    · have n : (a.tdiv b).natAbs = a.natAbs / b.natAbs := Int.natAbs_tdiv a b
      have l : a.natAbs / b.natAbs ≤ a.natAbs / 2 := Nat.div_le_div_left (by omega) (by decide)
      omega
theorem wrap_in {x : Int} (h : -9223372036854775808 ≤ x ∧ x ≤ 9223372036854775807) : wrap64 x = x := by unfold wrap64; omega
theorem wrap_bd (x : Int) : -9223372036854775808 ≤ wrap64 x ∧ wrap64 x ≤ 9223372036854775807 := by unfold wrap64; omega

/-- A product that was wrapped round is told by its quotient. -/
theorem mul_told {a b : Int} (b1 : -9223372036854775808 ≤ b) (b2 : b ≤ 9223372036854775807) (h0 : b ≠ 0) (a1 : -9223372036854775808 ≤ a) (a2 : a ≤ 9223372036854775807) (h1 : b = -1 → a ≠ -9223372036854775808)
    (h : (wrap64 ((wrap64 (a * b)).tdiv b) != a) = false) : wrap64 (a * b) = mulV a b ∧ true = mulB a b := by
  have bd := wrap_bd (a * b)
  have e : wrap64 ((wrap64 (a * b)).tdiv b) = a := by simpa using h
  have h2 : b = -1 → wrap64 (a * b) ≠ -9223372036854775808 := by
    intro k
    have := h1 k
    rw [k, Int.mul_neg_one]
    unfold wrap64
    omega
  rw [wrap_in (tdiv_fits bd.1 bd.2 h0 h2)] at e
  obtain ⟨t, -, -, t1, t2⟩ := tdm (wrap64 (a * b)) b h0
  rw [e, Int.mul_comm] at t
  have o : wrap64 (a * b) = a * b := by
    revert t t1 t2
    unfold wrap64
    generalize ((a * b + 9223372036854775808) % 18446744073709551616 - 9223372036854775808).tmod b = r
    generalize a * b = m
    omega
  rw [o] at bd
  exact ⟨by rw [mulV, fitV_yes bd, o], (fitB_yes bd).symm⟩
theorem mul_over {a b : Int} (h0 : b ≠ 0) (a1 : -9223372036854775808 ≤ a) (a2 : a ≤ 9223372036854775807)
    (h : (wrap64 ((wrap64 (a * b)).tdiv b) != a) = true) : 0 = mulV a b ∧ false = mulB a b := by
  by_cases o : -9223372036854775808 ≤ a * b ∧ a * b ≤ 9223372036854775807
  · exfalso
    rw [wrap_in o] at h
    rw [Int.mul_tdiv_cancel _ h0, wrap_in ⟨a1, a2⟩] at h
    simp at h
  · have o' : a * b < -9223372036854775808 ∨ 9223372036854775807 < a * b := by omega
    exact ⟨(fitV_no o').symm, (fitB_no o').symm⟩

theorem fdiv_m1 (a : Int) : a.fdiv (-1) = -a := ((Int.fdiv_fmod_unique' (a := a) (r := 0) (q := -a) (by decide)).2 ⟨by omega, by decide, by decide⟩).1
/-- The quotient rounded down, out of the quotient towards zero. -/
theorem fdm {a b : Int} (hb : b ≠ 0) : (a.tmod b = 0 → a.fdiv b = a.tdiv b ∧ a.fmod b = 0) ∧ (a.tmod b ≠ 0 → (a < 0 ↔ b < 0) → a.fdiv b = a.tdiv b ∧ a.fmod b = a.tmod b) ∧ (a.tmod b ≠ 0 → ¬ (a < 0 ↔ b < 0) → a.fdiv b = a.tdiv b - 1 ∧ a.fmod b = a.tmod b + b) := by
  obtain ⟨e, n1, n2, l1, l2⟩ := tdm a b hb
  rcases Int.lt_or_lt_of_ne hb with h | h
  · have l := l2 h
    refine ⟨fun z => ?_, fun z s => ?_, fun z s => ?_⟩
    · refine (Int.fdiv_fmod_unique' h).2 ⟨by omega, by omega, by omega⟩
    · exact (Int.fdiv_fmod_unique' h).2 ⟨by omega, by omega, by omega⟩
    · exact (Int.fdiv_fmod_unique' h).2 ⟨by rw [Int.mul_sub]; omega, by omega, by omega⟩
  · have l := l1 h
    refine ⟨fun z => ?_, fun z s => ?_, fun z s => ?_⟩
    · refine (Int.fdiv_fmod_unique h).2 ⟨by omega, by omega, by omega⟩
    · exact (Int.fdiv_fmod_unique h).2 ⟨by omega, by omega, by omega⟩
    · exact (Int.fdiv_fmod_unique h).2 ⟨by rw [Int.mul_sub]; omega, by omega, by omega⟩

theorem tdiv_half {a b : Int} (a1 : -9223372036854775808 ≤ a) (a2 : a ≤ 9223372036854775807) (h0 : b ≠ 0) (h1 : b ≠ -1) (h2 : b ≠ 1) :
    -4611686018427387904 ≤ a.tdiv b ∧ a.tdiv b ≤ 4611686018427387904 := by
  have n : (a.tdiv b).natAbs = a.natAbs / b.natAbs := Int.natAbs_tdiv a b
  have l : a.natAbs / b.natAbs ≤ a.natAbs / 2 := Nat.div_le_div_left (by omega) (by decide)
  omega
theorem tmod_one (a : Int) : a.tmod 1 = 0 := by
  have := (tdm a 1 (by decide)).2.2.2.1 (by decide)
  omega
theorem tmod_m1 (a : Int) : a.tmod (-1) = 0 := by
  have := (tdm a (-1) (by decide)).2.2.2.2 (by decide)
  omega
theorem div_even {a b : Int} (a1 : -9223372036854775808 ≤ a) (a2 : a ≤ 9223372036854775807) (h0 : b ≠ 0) (h1 : b = -1 → a ≠ -9223372036854775808) (e : a.fdiv b = a.tdiv b) :
    wrap64 (a.tdiv b) = divV a b ∧ true = divB a b := by
  have tf := tdiv_fits a1 a2 h0 h1
  rw [divV, divB, if_neg h0, if_neg h0, e, fitV_yes tf, wrap_in tf, fitB_yes tf]
  exact ⟨rfl, rfl⟩
theorem div_down {a b : Int} (a1 : -9223372036854775808 ≤ a) (a2 : a ≤ 9223372036854775807) (h0 : b ≠ 0) (h1 : b = -1 → a ≠ -9223372036854775808)
    (h : (a.tmod b != 0) = true ∧ (!decide (a < 0) == decide (b < 0)) = true) :
    wrap64 (wrap64 (a.tdiv b) - 1) = divV a b ∧ true = divB a b := by
  have z : a.tmod b ≠ 0 := by simpa using h.1
  have e := ((fdm (a := a) h0).2.2 z (ne_iff h.2)).1
  have tf := tdiv_fits a1 a2 h0 h1
  have th := tdiv_half a1 a2 h0 (fun k => z (by rw [k]; exact tmod_m1 a)) (fun k => z (by rw [k]; exact tmod_one a))
  rw [divV, divB, if_neg h0, if_neg h0, e, wrap_in tf, fitV_yes (by omega), wrap_in (by omega), fitB_yes (by omega)]
  exact ⟨rfl, rfl⟩
theorem div_same {a b : Int} (a1 : -9223372036854775808 ≤ a) (a2 : a ≤ 9223372036854775807) (h0 : b ≠ 0) (h1 : b = -1 → a ≠ -9223372036854775808) (z : ¬ a.tmod b = 0)
    (h : (a.tmod b != 0) = false ∨ (!decide (a < 0) == decide (b < 0)) = false) :
    wrap64 (a.tdiv b) = divV a b ∧ true = divB a b := by
  rcases h with h | h
  · exact absurd (by simpa using h) z
  · exact div_even a1 a2 h0 h1 ((fdm (a := a) h0).2.1 z (eq_iff h)).1
theorem mod_even {a b : Int} (h0 : b ≠ 0) (z : a.tmod b = 0) : (0 : Int) = modV a b ∧ true = modB b := by
  rw [modV, if_neg h0, ((fdm (a := a) h0).1 z).2, modB, decide_eq_false h0]
  exact ⟨rfl, rfl⟩
theorem mod_sign {a b : Int} (h0 : b ≠ 0) (z : a.tmod b ≠ 0) : (a.tmod b < 0 ↔ a < 0) := by
  have t := tdm a b h0
  omega
theorem mod_up {a b : Int} (b1 : -9223372036854775808 ≤ b) (b2 : b ≤ 9223372036854775807) (h0 : b ≠ 0)
    (h : (a.tmod b != 0) = true ∧ (!decide (a.tmod b < 0) == decide (b < 0)) = true) :
    wrap64 (a.tmod b + b) = modV a b ∧ true = modB b := by
  have z : a.tmod b ≠ 0 := by simpa using h.1
  have s := mod_sign h0 z
  have n := ne_iff h.2
  have t := tdm a b h0
  rw [modV, if_neg h0, ((fdm (a := a) h0).2.2 z (by omega)).2, modB, decide_eq_false h0, wrap_in (by omega)]
  exact ⟨rfl, rfl⟩
theorem mod_same {a b : Int} (h0 : b ≠ 0) (z : ¬ a.tmod b = 0)
    (h : (a.tmod b != 0) = false ∨ (!decide (a.tmod b < 0) == decide (b < 0)) = false) :
    a.tmod b = modV a b ∧ true = modB b := by
  rcases h with h | h
  · exact absurd (by simpa using h) z
  · have s := mod_sign h0 z
    have n := eq_iff h
    rw [modV, if_neg h0, ((fdm (a := a) h0).2.1 z (by omega)).2, modB, decide_eq_false h0]
    exact ⟨rfl, rfl⟩

set_option maxHeartbeats 400000 in
theorem sub_any (a b : Int) (wa : (Lit.int .i64 a).wf = true) (wb : (Lit.int .i64 b).wf = true) (w : World) :
    Calls Tryd.prog 21 #[.int .i64 a, .int .i64 b] w fun e w' => e = .returned (.tuple #[.int .i64 (subV a b), .bool (subB a b)]) ∧ w = w' := by
  have a1 := wf_lo wa
  have a2 := wf_hi wa
  have b1 := wf_lo wb
  have b2 := wf_hi wb
  go_enter Tryd.func21, Tryd.ntmps21
  go_wp2
  · have h : (!decide (a < wrap64 (a - b)) == decide (b < 0)) = true := by assumption
    have k := sub_over a1 a2 b1 b2 h
    go_ret2
    exact ⟨tup2 k.1 k.2, rfl⟩
  · have h : (!decide (a < wrap64 (a - b)) == decide (b < 0)) = false := by assumption
    have k := sub_fits a1 a2 b1 b2 h
    go_ret2
    exact ⟨tup2 k.1 k.2, rfl⟩

set_option maxHeartbeats 400000 in
theorem mul_any (a b : Int) (wa : (Lit.int .i64 a).wf = true) (wb : (Lit.int .i64 b).wf = true) (w : World) :
    Calls Tryd.prog 28 #[.int .i64 a, .int .i64 b] w fun e w' => e = .returned (.tuple #[.int .i64 (mulV a b), .bool (mulB a b)]) ∧ w = w' := by
  have a1 := wf_lo wa
  have a2 := wf_hi wa
  have b1 := wf_lo wb
  have b2 := wf_hi wb
  have z : (Lit.int .i64 0).wf = true := by decide
  by_cases h0 : b = 0
  · subst h0
    go_enter Tryd.func28, Tryd.ntmps28
    go_wp2
    go_ret2
    exact ⟨tup2 (by rw [mulV, Int.mul_zero]; rfl) (by rw [mulB, Int.mul_zero]; rfl), rfl⟩
  · by_cases h1 : b = -1
    · subst h1
      go_enter Tryd.func28, Tryd.ntmps28
      go_wp2_with (go_at_call 21; refine (sub_any _ _ z wa _).mono ?_; rintro e w' ⟨rfl, rfl⟩)
      go_ret2
      exact ⟨tup2 (by rw [mulV, subV, Int.mul_neg_one, Int.zero_sub]) (by rw [mulB, subB, Int.mul_neg_one, Int.zero_sub]), rfl⟩
    · have k0 : (b == 0) = false := by simpa using h0
      have k1 : (b == -1) = false := by simpa using h1
      go_enter Tryd.func28, Tryd.ntmps28
      go_wp2
      · have h : (wrap64 ((wrap64 (a * b)).tdiv b) != a) = true := by assumption
        have k := mul_over h0 a1 a2 h
        go_ret2
        exact ⟨tup2 k.1 k.2, rfl⟩
      · have h : (wrap64 ((wrap64 (a * b)).tdiv b) != a) = false := by assumption
        have k := mul_told b1 b2 h0 a1 a2 (fun e => absurd e h1) h
        go_ret2
        exact ⟨tup2 k.1 k.2, rfl⟩

end Go.Proofs.YtgcacpcjlbhniaaDoor
