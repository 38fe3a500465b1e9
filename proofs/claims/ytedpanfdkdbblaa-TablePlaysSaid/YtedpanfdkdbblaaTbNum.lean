/- How the sizes of a table's arrays go with the number of its names: plain arithmetic. -/
import Derived.Test.YtedpanfdkdbblaaTbFit
namespace Go.Proofs.Ytedpanfdkdbblaa
set_option linter.unusedVariables false
/-- How many calls a moving still takes, with so many names in the first array. -/
def callsOf (r : Nat) : Nat := max 1 ((r + 7) / 8)
structure Num (s1 : Nat) (s2 : Option Nat) (r c g : Nat) : Prop where
  pow : ∃ j, s1 = 8 * 2 ^ j
  cg : c ≤ g
  g9 : g ≤ 1001
  rc : r ≤ c
  still : s2 = none → r = c ∧ c ≤ s1 ∧ (s1 = 8 ∨ (s1 ≤ 8 * c ∧ s1 ≤ 2 * g))
  mv : ∀ t, s2 = some t → (∃ j, t = 8 * 2 ^ j) ∧ s1 + t ≤ 16 + 8 * g ∧ c + callsOf r ≤ t ∧ 1 ≤ c ∧ ((t = 8 ∧ r ≤ 8) ∨ (t + 8 * callsOf r ≤ 8 * c ∧ t ≤ 2 * g))
/-- Behind the moving of a call. -/
structure Mid (s1 : Nat) (s2 : Option Nat) (r c g : Nat) : Prop where
  pow : ∃ j, s1 = 8 * 2 ^ j
  cg : c ≤ g
  g9 : g ≤ 1001
  rc : r ≤ c
  still : s2 = none → r = c ∧ c ≤ s1 ∧ (s1 = 8 ∨ (s1 ≤ 8 * c ∧ s1 ≤ 2 * g))
  mv : ∀ t, s2 = some t → (∃ j, t = 8 * 2 ^ j) ∧ s1 + t ≤ 16 + 8 * g ∧ c + callsOf r + 1 ≤ t ∧ t + 8 * (callsOf r + 1) ≤ 8 * c ∧ t ≤ 2 * g ∧ 16 ≤ t
/-- Ahead of fit. -/
structure Pre (s1 : Nat) (s2 : Option Nat) (r c g : Nat) : Prop where
  pow : ∃ j, s1 = 8 * 2 ^ j
  cg : c ≤ g
  g9 : g ≤ 1001
  rc : r ≤ c
  still : s2 = none → r = c ∧ c ≤ s1 + 1 ∧ (s1 = 8 ∨ (s1 ≤ 8 * (c + 1) ∧ s1 ≤ 2 * g))
  mv : ∀ t, s2 = some t → (∃ j, t = 8 * 2 ^ j) ∧ s1 + t ≤ 16 + 8 * g ∧ c + callsOf r ≤ t ∧ 1 ≤ c ∧ ((t = 8 ∧ r ≤ 8) ∨ (t + 8 * callsOf r ≤ 8 * c ∧ t ≤ 2 * g))
theorem pow8 {s : Nat} (h : ∃ j, s = 8 * 2 ^ j) : s = 8 ∨ 16 ≤ s := by
  obtain ⟨j, rfl⟩ := h
  cases j with
  | zero => exact .inl rfl
  | succ j =>
    have : 0 < 2 ^ j := Nat.pow_pos (by decide)
    rw [Nat.pow_succ]
    omega
theorem Num.small {s1 : Nat} {s2 : Option Nat} {r c g : Nat} (h : Num s1 s2 r c g) : s1 ≤ 8024 ∧ ∀ t, s2 = some t → t ≤ 8024 := by
  have g9 := h.g9; have cg := h.cg
  cases s2 with
  | none =>
    obtain ⟨a, b, c⟩ := h.still rfl
    exact ⟨by omega, fun t e => (nomatch e)⟩
  | some t =>
    obtain ⟨a, b, c, d, e⟩ := h.mv t rfl
    refine ⟨by omega, fun t' e => ?_⟩
    injection e with e
    omega
theorem Num.total {s1 : Nat} {s2 : Option Nat} {r c g : Nat} (h : Num s1 s2 r c g) : s1 + s2.getD 0 ≤ 16 + 8 * g := by
  have cg := h.cg
  cases s2 with
  | none => obtain ⟨a, b, c⟩ := h.still rfl; show s1 + 0 ≤ _; omega
  | some t => obtain ⟨a, b, c, d, e⟩ := h.mv t rfl; exact b
theorem Num.rest {s1 : Nat} {r c g : Nat} (h : Num s1 none r c g) : Mid s1 none r c g :=
  ⟨h.pow, h.cg, h.g9, h.rc, h.still, fun t e => (nomatch e)⟩
theorem Num.end_ {s1 t r c g : Nat} (h : Num s1 (some t) r c g) : Mid t none c c g := by
  obtain ⟨a, b, d, e, f⟩ := h.mv t rfl
  have cg := h.cg
  have cl : 1 ≤ callsOf r := by unfold callsOf; omega
  refine ⟨a, h.cg, h.g9, Nat.le_refl _, fun _ => ⟨rfl, by omega, ?_⟩, fun t e => (nomatch e)⟩
  rcases f with ⟨f, _⟩ | ⟨f, f'⟩
  · exact .inl f
  · exact .inr ⟨by omega, f'⟩
theorem calls_less {r r' : Nat} (h : r' + 8 = r) (h0 : 0 < r') : callsOf r' + 1 = callsOf r := by unfold callsOf; omega
theorem Num.go {s1 t r r' c g : Nat} (h : Num s1 (some t) r c g) (hr : r' + 8 = r) (h0 : 0 < r') : Mid s1 (some t) r' c g := by
  obtain ⟨a, b, d, e, f⟩ := h.mv t rfl
  have cl := calls_less hr h0
  have rc := h.rc
  have p8 := pow8 a
  have c1 : 1 ≤ callsOf r' := by unfold callsOf; omega
  refine ⟨h.pow, h.cg, h.g9, by omega, fun e => (nomatch e), fun t' e' => ?_⟩
  injection e' with e'
  subst e'
  refine ⟨a, b, by omega, ?_, ?_, ?_⟩
  · rcases f with ⟨f, f'⟩ | ⟨f, f'⟩ <;> omega
  · rcases f with ⟨f, f'⟩ | ⟨f, f'⟩ <;> omega
  · rcases f with ⟨f, f'⟩ | ⟨f, f'⟩ <;> omega
theorem Mid.num {s1 : Nat} {s2 : Option Nat} {r c g : Nat} (h : Mid s1 s2 r c g) : Num s1 s2 r c g := by
  refine ⟨h.pow, h.cg, h.g9, h.rc, h.still, fun t e => ?_⟩
  obtain ⟨a, b, d, e, f, i⟩ := h.mv t e
  exact ⟨a, b, by omega, by omega, .inr ⟨by omega, f⟩⟩
theorem Mid.put {s1 : Nat} {s2 : Option Nat} {r r' c g g' : Nat} (h : Mid s1 s2 r c g) (hc : c ≤ 1000) (hr : r' = if s2.isSome then r else r + 1) (hg : g' = max (if c = 0 then 0 else g) (c + 1)) : Pre s1 s2 r' (c + 1) g' := by
  have cg := h.cg; have g9 := h.g9; have rc := h.rc
  have p8 := pow8 h.pow
  have g1 : c + 1 ≤ g' := by omega
  have g2 : g' ≤ 1001 := by
    split at hg <;> omega
  cases s2 with
  | none =>
    rw [if_neg (by simp)] at hr
    obtain ⟨a, b, d⟩ := h.still rfl
    refine ⟨h.pow, g1, g2, by omega, fun _ => ⟨by omega, by omega, ?_⟩, fun t e => (nomatch e)⟩
    by_cases c0 : c = 0
    · rw [if_pos c0] at hg; omega
    · rw [if_neg c0] at hg; omega
  | some t =>
    replace hr : r' = r := hr
    obtain ⟨a, b, d, e, f, i⟩ := h.mv t rfl
    subst hr
    have c0 : c ≠ 0 := by omega
    rw [if_neg c0] at hg
    refine ⟨h.pow, g1, g2, by omega, fun e => (nomatch e), fun t' e' => ?_⟩
    injection e' with e'
    subst e'
    exact ⟨a, by omega, by omega, by omega, .inr ⟨by omega, by omega⟩⟩
theorem Mid.del {s1 : Nat} {s2 : Option Nat} {r r' c g : Nat} (h : Mid s1 s2 r c g) (hc : 1 ≤ c) (hr : r' ≤ r) (hn : s2 = none → r' + 1 = r) (hr' : r' ≤ c - 1) : Pre s1 s2 r' (c - 1) g := by
  have cg := h.cg; have g9 := h.g9; have rc := h.rc
  have p8 := pow8 h.pow
  cases s2 with
  | none =>
    have hn := hn rfl
    obtain ⟨a, b, d⟩ := h.still rfl
    exact ⟨h.pow, by omega, g9, hr', fun _ => ⟨by omega, by omega, by omega⟩, fun t e => (nomatch e)⟩
  | some t =>
    obtain ⟨a, b, d, e, f, i⟩ := h.mv t rfl
    have cl : callsOf r' ≤ callsOf r := by unfold callsOf; omega
    refine ⟨h.pow, by omega, g9, hr', fun e => (nomatch e), fun t' e' => ?_⟩
    injection e' with e'
    subst e'
    exact ⟨a, b, by omega, by omega, .inr ⟨by omega, f⟩⟩
theorem Pre.fit {s1 : Nat} {s2 : Option Nat} {r c g : Nat} (h : Pre s1 s2 r c g) : Num s1 (fitted s1 s2 c) r c g := by
  have cg := h.cg; have g9 := h.g9; have rc := h.rc
  have p8 := pow8 h.pow
  cases s2 with
  | some t => exact ⟨h.pow, cg, g9, rc, fun e => (nomatch e), h.mv⟩
  | none =>
    obtain ⟨a, b, d⟩ := h.still rfl
    obtain ⟨j, hj⟩ := h.pow
    by_cases k : s1 < c
    · have e : fitted s1 none c = some (2 * s1) := by simp [fitted, k]
      rw [e]
      refine ⟨h.pow, cg, g9, rc, fun e => (nomatch e), fun t e' => ?_⟩
      injection e' with e'
      subst e'
      obtain ⟨u, hu⟩ : ∃ u, s1 = 8 * u := ⟨2 ^ j, hj⟩
      have cl : callsOf r = u + 1 := by unfold callsOf; omega
      exact ⟨⟨j + 1, by rw [hj, Nat.pow_succ]; omega⟩, by omega, by omega, by omega, .inr ⟨by omega, by omega⟩⟩
    · by_cases k2 : 8 < s1 ∧ c < s1 / 8
      · have e : fitted s1 none c = some (s1 / 2) := by simp [fitted, k, k2]
        rw [e]
        refine ⟨h.pow, cg, g9, rc, fun e => (nomatch e), fun t e' => ?_⟩
        injection e' with e'
        subst e'
        cases j with
        | zero => simp at hj; omega
        | succ j =>
          rw [Nat.pow_succ] at hj
          have hp : ∃ i, s1 / 2 = 8 * 2 ^ i := ⟨j, by omega⟩
          cases j with
          | zero =>
            simp at hj
            have : callsOf r = 1 := by unfold callsOf; omega
            exact ⟨hp, by omega, by omega, by omega, .inl ⟨by omega, by omega⟩⟩
          | succ j =>
            rw [Nat.pow_succ] at hj
            cases j with
            | zero =>
              simp at hj
              have : callsOf r = 1 := by unfold callsOf; omega
              exact ⟨hp, by omega, by omega, by omega, .inr ⟨by omega, by omega⟩⟩
            | succ j =>
              rw [Nat.pow_succ] at hj
              obtain ⟨v, hv⟩ : ∃ v, 2 ^ j = v := ⟨_, rfl⟩
              have v0 : 0 < v := by rw [← hv]; exact Nat.pow_pos (by decide)
              rw [hv] at hj
              have cl : callsOf r ≤ (8 * v + 6) / 8 + 1 := by unfold callsOf; omega
              have cl2 : callsOf r = v := by unfold callsOf; omega
              exact ⟨hp, by omega, by omega, by omega, .inr ⟨by omega, by omega⟩⟩
      · have e : fitted s1 none c = none := by simp [fitted, k, k2]
        rw [e]
        refine ⟨h.pow, cg, g9, rc, fun _ => ⟨a, by omega, ?_⟩, fun t e => (nomatch e)⟩
        rcases d with d | ⟨d, d'⟩
        · exact .inl d
        · by_cases q : s1 = 8
          · exact .inl q
          · refine .inr ⟨?_, d'⟩
            omega
end Go.Proofs.Ytedpanfdkdbblaa
