/- Scripts of many local names: what package scope says of their trees. No program is named. -/
import Derived.Test.YtclfjkleijkekaaScZx
namespace Go.Proofs.Ytclfjkleijkekaa
open PrM ScM
set_option linter.unusedVariables false
set_option linter.unusedSimpArgs false
namespace Mny
theorem row_snoc : ∀ (l x : X), l.isRow → (l.snoc x).isRow
  | .nil, x, _ => trivial
  | .cons h t, x, k => row_snoc t x k
theorem sem_snoc : ∀ (l x : X), l.isRow → (sem (l.snoc x)).2 = (sem l).2 ++ [(sem x).1]
  | .nil, x, _ => rfl
  | .cons h t, x, k => by
    show (sem h).1 :: (sem (t.snoc x)).2 = _
    rw [sem_snoc t x k]
    rfl
theorem sz_snoc : ∀ (l x : X), l.isRow → sz (l.snoc x) = sz l + sz x
  | .nil, x, _ => by show sz x + 0 = 0 + sz x; omega
  | .cons h t, x, k => by
    show sz h + sz (t.snoc x) = sz h + sz t + sz x
    rw [sz_snoc t x k]; omega
/-- How many names the function has, the error, its place. -/
def Q (o : Nat) (e a : Int) (s : Sc) : Prop := s.own = o ∧ s.err = e ∧ s.at_ = a
theorem loc_low {o : Nat} {s : Sc} (h : Q o 0 0 s) (ho : o < 150) (p : Nat) (c : UInt8) : Q (o + 1) 0 0 ((sem (S1 p c)).1 s) := by
  obtain ⟨h1, h2, h3⟩ := h
  have e : (sem (S1 p c)).1 s = declare [⟨#[c]⟩] (limit [⟨#[c]⟩] (p : Int) s) := rfl
  have l : limit [⟨#[c]⟩] (p : Int) s = s := if_neg (by rw [h1]; simp only [List.length_cons, List.length_nil]; omega)
  rw [e, l]
  exact ⟨by show s.own + 1 = o + 1; rw [h1], h2, h3⟩
theorem loc_top {o : Nat} {s : Sc} (h : Q o 0 0 s) (ho : o = 150) (p : Nat) (c : UInt8) : Q (o + 1) 8 (p : Int) ((sem (S1 p c)).1 s) := by
  obtain ⟨h1, h2, h3⟩ := h
  have e : (sem (S1 p c)).1 s = declare [⟨#[c]⟩] (limit [⟨#[c]⟩] (p : Int) s) := rfl
  have l : limit [⟨#[c]⟩] (p : Int) s = fault 8 (p : Int) s := if_pos (by rw [h1]; simp only [List.length_cons, List.length_nil]; omega)
  rw [e, l]
  unfold fault
  rw [if_pos h2]
  exact ⟨by show s.own + 1 = o + 1; rw [h1], rfl, rfl⟩
theorem loc_bad {o : Nat} {s : Sc} {a : Int} (h : Q o 8 a s) (p : Nat) (c : UInt8) : Q (o + 1) 8 a ((sem (S1 p c)).1 s) := by
  obtain ⟨h1, h2, h3⟩ := h
  have e : (sem (S1 p c)).1 s = declare [⟨#[c]⟩] (limit [⟨#[c]⟩] (p : Int) s) := rfl
  have l : limit [⟨#[c]⟩] (p : Int) s = s := by
    unfold limit fault
    rw [if_neg (show ¬ s.err = 0 by rw [h2]; decide)]
    split <;> rfl
  rw [e, l]
  exact ⟨by show s.own + 1 = o + 1; rw [h1], h2, h3⟩
theorem blk_low {o : Nat} {s : Sc} (h : Q o 0 0 s) (ho : o + 2 ≤ 150) (p : Nat) : Q o 0 0 ((sem (B1 p)).1 s) := by
  obtain ⟨h1, h2, h3⟩ := h
  have e : (sem (B1 p)).1 s = back s ((sem (S1 (p + 11) 98)).1 ((sem (S1 (p + 3) 97)).1 (declare [] (enter 1 s)))) := rfl
  have q0 : Q o 0 0 (declare [] (enter 1 s)) := ⟨h1, h2, h3⟩
  have q2 := loc_low (loc_low q0 (by omega) (p + 3) 97) (by omega) (p + 11) 98
  rw [e]
  exact ⟨h1, q2.2.1, q2.2.2⟩
theorem locs_bad {a : Int} : ∀ (k o p : Nat) (l : X) (s : Sc), l.isRow → Q o 8 a (runs (sem l).2 s) → Q (o + k) 8 a (runs (sem (snocs l p k)).2 s) ∧ (snocs l p k).isRow
  | 0, o, p, l, s, r, h => ⟨h, r⟩
  | k + 1, o, p, l, s, r, h => by
    have h2 : Q (o + 1) 8 a (runs (sem (l.snoc (S1 p 99))).2 s) := by
      rw [sem_snoc l _ r, runs_append]
      exact loc_bad h p 99
    have := locs_bad k (o + 1) (p + 8) (l.snoc (S1 p 99)) s (row_snoc l _ r) h2
    rw [show o + (k + 1) = o + 1 + k by omega]
    exact this
theorem locs_all : ∀ (k o p : Nat) (l : X) (s : Sc), l.isRow → o ≤ 150 → Q o 0 0 (runs (sem l).2 s) → Q (o + k) (if o + k ≤ 150 then 0 else 8) (if o + k ≤ 150 then 0 else ((p + 8 * (150 - o) : Nat) : Int)) (runs (sem (snocs l p k)).2 s)
  | 0, o, p, l, s, r, ho, h => by
    rw [if_pos (by omega), if_pos (by omega)]
    exact h
  | k + 1, o, p, l, s, r, ho, h => by
    by_cases q : o = 150
    · have h2 : Q (o + 1) 8 (p : Int) (runs (sem (l.snoc (S1 p 99))).2 s) := by
        rw [sem_snoc l _ r, runs_append]
        exact loc_top h q p 99
      have := (locs_bad k (o + 1) (p + 8) (l.snoc (S1 p 99)) s (row_snoc l _ r) h2).1
      rw [if_neg (by omega), if_neg (by omega), show o + (k + 1) = o + 1 + k by omega, show p + 8 * (150 - o) = p by omega]
      exact this
    · have h2 : Q (o + 1) 0 0 (runs (sem (l.snoc (S1 p 99))).2 s) := by
        rw [sem_snoc l _ r, runs_append]
        exact loc_low h (by omega) p 99
      have := locs_all k (o + 1) (p + 8) (l.snoc (S1 p 99)) s (row_snoc l _ r) (by omega) h2
      rw [show o + (k + 1) = o + 1 + k by omega, show p + 8 * (150 - o) = p + 8 + 8 * (150 - (o + 1)) by omega]
      exact this
theorem blks_all : ∀ (k o p : Nat) (l : X) (s : Sc), l.isRow → o + 2 ≤ 150 → Q o 0 0 (runs (sem l).2 s) → Q o 0 0 (runs (sem (snocB l p k)).2 s) ∧ (snocB l p k).isRow
  | 0, o, p, l, s, r, ho, h => ⟨h, r⟩
  | k + 1, o, p, l, s, r, ho, h => by
    have h2 : Q o 0 0 (runs (sem (l.snoc (B1 p))).2 s) := by
      rw [sem_snoc l _ r, runs_append]
      exact blk_low h ho p
    exact blks_all k o (p + 23) (l.snoc (B1 p)) s (row_snoc l _ r) ho h2
theorem sz_snocs : ∀ (k p : Nat) (l : X), l.isRow → sz (snocs l p k) = sz l + 2 * k
  | 0, p, l, r => rfl
  | k + 1, p, l, r => by
    show sz (snocs (l.snoc (S1 p 99)) (p + 8) k) = _
    rw [sz_snocs k (p + 8) _ (row_snoc l _ r), sz_snoc l _ r]
    have : sz (S1 p 99) = 2 := rfl
    omega
theorem sz_snocB : ∀ (k p : Nat) (l : X), l.isRow → sz (snocB l p k) = sz l + 6 * k ∧ (snocB l p k).isRow
  | 0, p, l, r => ⟨rfl, r⟩
  | k + 1, p, l, r => by
    obtain ⟨h, h2⟩ := sz_snocB k (p + 23) (l.snoc (B1 p)) (row_snoc l _ r)
    refine ⟨?_, h2⟩
    show sz (snocB (l.snoc (B1 p)) (p + 23) k) = _
    rw [h, sz_snoc l _ r]
    have : sz (B1 p) = 6 := rfl
    omega
theorem rows_all (o p b q k : Nat) (s : Sc) (ho : o + 2 ≤ 150) (h : Q o 0 0 s) : Q (o + k) (if o + k ≤ 150 then 0 else 8) (if o + k ≤ 150 then 0 else ((q + 8 * (150 - o) : Nat) : Int)) (runs (sem (rows p b q k)).2 s) := by
  obtain ⟨h1, h2⟩ := blks_all b o p .nil s trivial ho h
  exact locs_all k o q _ s h2 (by omega) h1
theorem rows_sz (p b q k : Nat) : sz (rows p b q k) = 6 * b + 2 * k := by
  obtain ⟨h1, h2⟩ := sz_snocB b p .nil trivial
  unfold rows
  rw [sz_snocs k q _ h2, h1]
  show 0 + 6 * b + 2 * k = _
  omega
theorem chk_top (b k : Nat) : (chk (rows 0 b (23 * b) k)).err = (if k ≤ 148 then 0 else 8) ∧ (chk (rows 0 b (23 * b) k)).at_ = (if k ≤ 148 then 0 else ((23 * b + 8 * 148 : Nat) : Int)) := by
  have h : Q 2 0 0 (declare [keysB, argvB] (enter 3 st0)) := ⟨rfl, rfl, rfl⟩
  obtain ⟨_, h2, h3⟩ := rows_all 2 0 b (23 * b) k _ (by omega) h
  have i : (2 + k ≤ 150) = (k ≤ 148) := by apply propext; omega
  simp only [i] at h2 h3
  exact ⟨h2, h3⟩
theorem chk_fun (b k : Nat) : (chk (.cons (S2 b k) .nil)).err = (if k ≤ 150 then 0 else 8) ∧ (chk (.cons (S2 b k) .nil)).at_ = (if k ≤ 150 then 0 else ((21 + 23 * b + 8 * 150 : Nat) : Int)) := by
  obtain ⟨s, hs⟩ : ∃ s, limit [⟨#[102]⟩] 0 (declare [keysB, argvB] (enter 3 st0)) = s := ⟨_, rfl⟩
  have e : chk (.cons (S2 b k) .nil) = back st0 (declare [⟨#[102]⟩] (back s (runs (sem (rows 21 b (21 + 23 * b) k)).2 (declare [] (enter 3 s))))) := by rw [← hs]; rfl
  have h : Q 0 0 0 (declare [] (enter 3 s)) := by rw [← hs]; exact ⟨rfl, rfl, rfl⟩
  obtain ⟨_, h2, h3⟩ := rows_all 0 21 b (21 + 23 * b) k _ (by omega) h
  rw [Nat.zero_add] at h2 h3
  rw [e]
  exact ⟨h2, h3⟩
end Mny
end Go.Proofs.Ytclfjkleijkekaa
