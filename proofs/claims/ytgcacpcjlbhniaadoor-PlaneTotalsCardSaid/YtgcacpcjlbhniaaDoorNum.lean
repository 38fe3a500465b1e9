/- Plain lemmas on numerals: what Parse makes of a text, in words of the text's value; a number's own text comes back as that number. -/
import Derived.Test.YtgcacpcjlbhniaaDoorCut
import Derived.Lib.ItoaNum
namespace Go.Proofs.YtgcacpcjlbhniaaDoor
open Go.RowKit

/-- The number of the digits, going on from n; none if a byte is no digit. -/
def rl : List UInt8 → Nat → Option Nat
  | [], n => some n
  | c :: r, n => if c.toNat < 48 ∨ 57 < c.toNat then none else rl r (n * 10 + (c.toNat - 48))
theorem rl_ge : ∀ (l : List UInt8) (n v : Nat), rl l n = some v → n ≤ v
  | [], n, v, h => by rw [rl] at h; injection h; omega
  | c :: r, n, v, h => by
    rw [rl] at h
    split at h
    · cases h
    · have := rl_ge r _ v h; omega
theorem rl_lt : ∀ (l : List UInt8) (n v k : Nat), rl l n = some v → n < 10 ^ k → v < 10 ^ (k + l.length)
  | [], n, v, k, h, hn => by rw [rl] at h; injection h with h; subst h; simpa using hn
  | c :: r, n, v, k, h, hn => by
    rw [rl] at h
    split at h
    · cases h
    · have := rl_lt r _ v (k + 1) h (by rw [Nat.pow_succ]; omega)
      rw [List.length_cons, show k + (r.length + 1) = k + 1 + r.length by omega]
      exact this
theorem rl_big : ∀ (l : List UInt8) (n v k : Nat), rl l n = some v → 10 ^ k ≤ n → 10 ^ (k + l.length) ≤ v
  | [], n, v, k, h, hn => by rw [rl] at h; injection h with h; subst h; simpa using hn
  | c :: r, n, v, k, h, hn => by
    rw [rl] at h
    split at h
    · cases h
    · have := rl_big r _ v (k + 1) h (by rw [Nat.pow_succ]; omega)
      rw [List.length_cons, show k + (r.length + 1) = k + 1 + r.length by omega]
      exact this
theorem rl_append : ∀ (l r : List UInt8) (n : Nat), rl (l ++ r) n = (rl l n).bind (rl r)
  | [], r, n => rfl
  | c :: l, r, n => by
    rw [List.cons_append, rl, rl]
    split
    · rfl
    · exact rl_append l r _

/-- What Parse's loop makes of a value. -/
def cap : Option Nat → Int × Bool
  | some v => if v ≤ 9223372036854775808 then (-(v : Int), true) else (0, false)
  | none => (0, false)
theorem cap_big {l : List UInt8} {m : Nat} (h : 9223372036854775808 < m) : cap (rl l m) = (0, false) := by
  cases e : rl l m with
  | none => rfl
  | some v => have := rl_ge l m v e; rw [cap, if_neg (by omega)]
theorem pb_cap : ∀ (l : List UInt8) (m : Nat), m ≤ 9223372036854775808 → pb l (-(m : Int)) = cap (rl l m)
  | [], m, hm => by rw [pb, rl, cap, if_pos hm]
  | c :: r, m, hm => by
    rw [rl]
    by_cases hc : c.toNat < 48 ∨ 57 < c.toNat
    · have hlt : c.toNat < 256 := c.toNat_lt
      rw [if_pos hc, pb_far (by unfold dig; omega)]; rfl
    · have hd : dig c = ((c.toNat - 48 : Nat) : Int) := by unfold dig; omega
      have h9 : dig c ≤ 9 := by omega
      rw [if_neg hc]
      by_cases h1 : m * 10 ≤ 9223372036854775808
      · have f1 : -9223372036854775808 ≤ -(m : Int) * 10 ∧ -(m : Int) * 10 ≤ 9223372036854775807 := by omega
        have e1 : mulV (-(m : Int)) 10 = -((m * 10 : Nat) : Int) := by rw [mulV, fitV_yes f1]; omega
        by_cases h2 : m * 10 + (c.toNat - 48) ≤ 9223372036854775808
        · have f2 : -9223372036854775808 ≤ -((m * 10 : Nat) : Int) - dig c ∧ -((m * 10 : Nat) : Int) - dig c ≤ 9223372036854775807 := by omega
          have e2 : subV (-((m * 10 : Nat) : Int)) (dig c) = -((m * 10 + (c.toNat - 48) : Nat) : Int) := by rw [subV, fitV_yes f2]; omega
          rw [pb_on h9 (fitB_yes f1) (by rw [e1]; exact fitB_yes f2), e1, e2]
          exact pb_cap r _ h2
        · rw [pb_sub h9 (fitB_yes f1) (by rw [e1]; exact fitB_no (by omega)), cap_big (by omega)]
      · rw [pb_mul h9 (fitB_no (by omega)), cap_big (by omega)]
theorem pb_zero (l : List UInt8) : pb l 0 = cap (rl l 0) := pb_cap l 0 (by omega)

/-- A number's own digits. -/
theorem dec_value (u : Nat) : rl (Lib.decDigits u) 0 = some u := by
  induction u using Nat.strongRecOn with
  | _ u ih =>
    rw [Lib.decDigits]
    split
    · rename_i h
      rw [rl, if_neg (by simp; omega), rl]
      simp; omega
    · rename_i h
      rw [rl_append, ih (u / 10) (by omega), Option.bind_some, rl, if_neg (by simp; omega), rl]
      simp; omega
theorem dec_head (u : Nat) : ∃ d, d ≤ 9 ∧ (Lib.decDigits u).take 1 = [UInt8.ofNat (48 + d)] ∧ (u ≠ 0 → d ≠ 0) ∧ Lib.decDigits u ≠ [] := by
  induction u using Nat.strongRecOn with
  | _ u ih =>
    rw [Lib.decDigits]
    split
    · rename_i h
      exact ⟨u, by omega, rfl, fun k => k, by simp⟩
    · rename_i h
      obtain ⟨d, h1, h2, h3, h4⟩ := ih (u / 10) (by omega)
      refine ⟨d, h1, ?_, fun _ => h3 (by omega), by simp⟩
      cases hl : Lib.decDigits (u / 10) with
      | nil => exact absurd hl h4
      | cons c r => rw [hl] at h2; simpa using h2
theorem head_ne {d : Nat} (h : d ≤ 9) {c : UInt8} (hc : c.toNat ≠ 48 + d) : ([UInt8.ofNat (48 + d)] : List UInt8) ≠ [c] := by
  intro k
  injection k with k
  rw [← k] at hc
  apply hc
  simp
  omega
/-- Parse reads back what Print writes. -/
theorem ps_itoa (n : Int) (n1 : -9223372036854775808 ≤ n) (n2 : n ≤ 9223372036854775807) : ps (Lib.itoa n) = (n, true) := by
  unfold Lib.itoa
  split
  · rename_i h
    obtain ⟨d, d9, hh, hz, hne⟩ := dec_head n.natAbs
    rw [ps, if_pos (by rfl)]
    have e : List.drop 1 (45 :: Lib.decDigits n.natAbs) = Lib.decDigits n.natAbs := rfl
    rw [e, if_neg, pb_zero, dec_value, cap, if_pos (by omega)]
    · congr 1; omega
    · rintro (k | k)
      · exact hne k
      · rw [hh] at k; exact head_ne d9 (by have := hz (by omega); show (48 : Nat) ≠ _; omega) k
  · rename_i h
    obtain ⟨d, d9, hh, hz, hne⟩ := dec_head n.toNat
    have hv : pb (Lib.decDigits n.toNat) 0 = (-n, true) := by
      rw [pb_zero, dec_value, cap, if_pos (by omega)]; congr 1; omega
    rw [ps, if_neg (by rw [hh]; exact head_ne d9 (by show (45 : Nat) ≠ _; omega)), if_neg, hv]
    · have f : -9223372036854775808 ≤ 0 - -n ∧ 0 - -n ≤ 9223372036854775807 := by omega
      rw [if_pos rfl, subV, subB, fitV_yes f, fitB_yes f]
      congr 1; omega
    · rintro (k | ⟨k, l⟩)
      · exact hne k
      · by_cases u : n.toNat = 0
        · rw [u] at l; exact l (by rw [Lib.decDigits]; rfl)
        · rw [hh] at k; exact head_ne d9 (by have := hz u; show (48 : Nat) ≠ _; omega) k
end Go.Proofs.YtgcacpcjlbhniaaDoor
