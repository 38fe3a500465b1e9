/- What the walk of the law TableMany wants in plain words: its names, the greatest common divisor, that steps prime to the number go through all places, a name taken out of a table. -/
import Derived.Test.YtedpanfdkdbblaaTabGw
namespace Go.Proofs.Ytedpanfdkdbblaa
open Go.RowKit
set_option linter.unusedVariables false
/-- The law's names. -/
def nm2 (i : Nat) : List UInt8 := [UInt8.ofNat (97 + i % 26), UInt8.ofNat (97 + i / 26 % 26)]
theorem nm2_inj {i j : Nat} (hi : i < 676) (hj : j < 676) (h : nm2 i = nm2 j) : i = j := by
  unfold nm2 at h
  injection h with h1 h
  injection h with h2 _
  have a := congrArg UInt8.toNat h1
  have b := congrArg UInt8.toNat h2
  rw [UInt8.toNat_ofNat', UInt8.toNat_ofNat'] at a b
  omega
def row2 (n : Nat) : List (List UInt8 × Int) := (List.range n).map fun i => (nm2 i, (i : Int))
theorem row2_length (n : Nat) : (row2 n).length = n := by simp [row2]
theorem row2_succ (n : Nat) : row2 (n + 1) = row2 n ++ [(nm2 n, (n : Int))] := by simp [row2, List.range_succ]
theorem get_row2 : ∀ (n j : Nat), n ≤ 600 → j < 676 → TabM.get (row2 n) (nm2 j) = if j < n then some (j : Int) else none
  | 0, j, _, _ => rfl
  | n + 1, j, hn, hj => by
    rw [row2_succ, get_append, get_row2 n j (by omega) hj]
    by_cases e : n = j
    · subst e
      rw [if_neg (by omega), if_pos (by omega)]
      simp [TabM.get]
    · have ne : ¬ nm2 n = nm2 j := fun h => e (nm2_inj (by omega) hj h)
      have h2 : TabM.get [(nm2 n, (n : Int))] (nm2 j) = none := by simp [TabM.get, ne]
      rw [h2]
      by_cases c : j < n
      · rw [if_pos c, if_pos (by omega)]; rfl
      · rw [if_neg c, if_neg (by omega)]; rfl
theorem put_row2 (i : Nat) (hi : i ≤ 599) : TabM.put ⟨row2 i, i⟩ (nm2 i) (i : Int) = ⟨row2 (i + 1), i + 1⟩ := by
  unfold TabM.put
  rw [get_row2 i i (by omega) (by omega), if_neg (by omega)]
  dsimp only
  rw [row2_succ]
  congr 1
  rw [row2_length]
  by_cases h : row2 i = []
  · rw [if_pos h]
    have := row2_length i
    rw [h] at this
    simp at this
    omega
  · rw [if_neg h]; omega
/-- No name twice. -/
def Apart2 (l : List (List UInt8 × Int)) : Prop := l.Pairwise fun a b => a.1 ≠ b.1
theorem apart_row2 : ∀ n, n ≤ 600 → Apart2 (row2 n)
  | 0, _ => List.Pairwise.nil
  | n + 1, h => by
    unfold Apart2
    rw [row2_succ, List.pairwise_append]
    refine ⟨apart_row2 n (by omega), List.pairwise_singleton _ _, fun a ha b hb => ?_⟩
    obtain ⟨i, hi, rfl⟩ := List.mem_map.1 ha
    have := List.mem_range.1 hi
    rw [List.mem_singleton.1 hb]
    exact fun e => by have := nm2_inj (by omega) (by omega) e; omega
theorem get_del (l : List (List UInt8 × Int)) (s t : List UInt8) : TabM.get (l.filter fun a => a.1 != s) t = if t = s then none else TabM.get l t := by
  unfold TabM.get
  rw [List.find?_filter]
  by_cases e : t = s
  · subst e
    rw [if_pos rfl]
    have : (fun a : List UInt8 × Int => decide ((a.1 != t) = true ∧ (a.1 == t) = true)) = fun _ => false := by
      funext a
      rcases h : a.1 == t with _ | _ <;> simp_all
    simp only [this]
    simp
  · rw [if_neg e]
    have : (fun a : List UInt8 × Int => decide ((a.1 != s) = true ∧ (a.1 == t) = true)) = fun a => a.1 == t := by
      funext a
      by_cases h : a.1 = t
      · subst h; simp [e]
      · simp [h]
    simp only [this]
theorem del_length : ∀ (l : List (List UInt8 × Int)) (s : List UInt8) (v : Int), Apart2 l → TabM.get l s = some v → (l.filter fun a => a.1 != s).length + 1 = l.length
  | [], s, v, _, h => by simp [TabM.get] at h
  | a :: r, s, v, hp, h => by
    unfold Apart2 at hp
    rw [List.pairwise_cons] at hp
    by_cases e : a.1 = s
    · subst e
      have h1 : r.filter (fun b => b.1 != a.1) = r := by
        rw [List.filter_eq_self]
        intro b hb
        have := hp.1 b hb
        simp [Ne.symm this]
      simp [h1]
    · have h2 : TabM.get r s = some v := by
        unfold TabM.get at h ⊢
        rw [List.find?_cons_of_neg (by simp [e])] at h
        exact h
      have := del_length r s v hp.2 h2
      simp [e]
      omega
theorem apart_del (l : List (List UInt8 × Int)) (s : List UInt8) (h : Apart2 l) : Apart2 (l.filter fun a => a.1 != s) := List.Pairwise.filter _ h
/-- Steps prime to the number never come twice to one place. -/
theorem steps_apart {d k i j : Nat} (hc : Nat.gcd d k = 1) (hi : i < k) (hj : j < k) (h : i * d % k = j * d % k) : i = j := by
  rcases Nat.lt_trichotomy i j with c | c | c
  · exfalso
    have h1 : (j * d - i * d) % k = 0 := Nat.sub_mod_eq_zero_of_mod_eq h.symm
    rw [← Nat.sub_mul] at h1
    have h2 : k ∣ (j - i) * d := Nat.dvd_of_mod_eq_zero h1
    have h3 : k ∣ j - i := Nat.Coprime.dvd_of_dvd_mul_right (Nat.Coprime.symm hc) h2
    have := Nat.le_of_dvd (by omega) h3
    omega
  · exact c
  · exfalso
    have h1 : (i * d - j * d) % k = 0 := Nat.sub_mod_eq_zero_of_mod_eq h
    rw [← Nat.sub_mul] at h1
    have h2 : k ∣ (i - j) * d := Nat.dvd_of_mod_eq_zero h1
    have h3 : k ∣ i - j := Nat.Coprime.dvd_of_dvd_mul_right (Nat.Coprime.symm hc) h2
    have := Nat.le_of_dvd (by omega) h3
    omega
end Go.Proofs.Ytedpanfdkdbblaa
