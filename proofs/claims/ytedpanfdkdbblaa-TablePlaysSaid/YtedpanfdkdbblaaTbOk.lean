/- A table's shape: its entries lie apart, each in its slot; an entry shifted from the first array to the second one. -/
import Derived.Test.YtedpanfdkdbblaaTbFind
namespace Go.Proofs.Ytedpanfdkdbblaa
open Go.RowKit
set_option linter.unusedVariables false
def second : Option (Nat × List (List Nd)) → List Nd
  | none => []
  | some (_, cs) => cs.flatten
def nodes (T : Tb) : List Nd := T.c.flatten ++ second T.two
def B2s : Option (Nat × List (List Nd)) → List Nat
  | none => []
  | some (B, _) => [B]
/-- All blocks of a table. -/
def blocks (q : Nat) (T : Tb) : List Nat := q :: T.B :: (B2s T.two ++ (nodes T).map Nd.b)
structure Ok (q : Nat) (T : Tb) : Prop where
  apart : (blocks q T).Nodup
  p1 : ∀ i, ∀ x ∈ chainAt T.c i, sl T.c x.s = i
  p2 : ∀ B cs, T.two = some (B, cs) → ∀ i, ∀ x ∈ chainAt cs i, sl cs x.s = i
  names : ((nodes T).map Nd.s).Nodup
  short : ∀ x ∈ nodes T, x.s.length ≤ 64
  cnt : T.count = (nodes T).length
  left : ∀ i, i < T.passed → chainAt T.c i = []
  pass : T.passed ≤ T.c.length
  one : T.two = none → T.passed = 0
theorem chainAt_set (cs : List (List Nd)) (j i : Nat) (ns : List Nd) (hj : j < cs.length) : chainAt (cs.set j ns) i = if j = i then ns else chainAt cs i := by
  unfold chainAt
  rw [List.getD_eq_getElem?_getD, List.getElem?_set]
  by_cases e : j = i
  · subst e; simp [hj]
  · simp [e]
/-- A chain of an array, and what lies beside it. -/
theorem flat_at {cs : List (List Nd)} {j : Nat} (hj : j < cs.length) : ∃ A C, cs.flatten = A ++ chainAt cs j ++ C ∧ ∀ ns, (cs.set j ns).flatten = A ++ ns ++ C := by
  rw [chainAt_is hj]; exact flat_split cs j hj
theorem empty_flat {cs : List (List Nd)} (h : ∀ i, i < cs.length → chainAt cs i = []) : cs.flatten = [] := by
  rw [List.flatten_eq_nil_iff]
  intro l hl
  obtain ⟨i, hi, e⟩ := List.getElem_of_mem hl
  rw [← e, ← chainAt_is hi]
  exact h i hi
section
variable {q : Nat} {T : Tb}
theorem Ok.qB (h : Ok q T) : T.B ≠ q := fun e => by
  have := (List.nodup_cons.1 h.apart).1
  exact this (e ▸ List.mem_cons_self)
theorem Ok.node_q (h : Ok q T) {x : Nd} (hx : x ∈ nodes T) : x.b ≠ q := fun e => by
  have := (List.nodup_cons.1 h.apart).1
  exact this (List.mem_cons_of_mem _ (List.mem_append_right _ (List.mem_map.2 ⟨x, hx, e⟩)))
theorem Ok.node_B (h : Ok q T) {x : Nd} (hx : x ∈ nodes T) : x.b ≠ T.B := fun e => by
  have := (List.nodup_cons.1 (List.nodup_cons.1 h.apart).2).1
  exact this (List.mem_append_right _ (List.mem_map.2 ⟨x, hx, e⟩))
theorem Ok.two_q (h : Ok q T) {B : Nat} {cs : List (List Nd)} (e2 : T.two = some (B, cs)) : B ≠ q := fun e => by
  have := (List.nodup_cons.1 h.apart).1
  rw [e2] at this
  exact this (List.mem_cons_of_mem _ (List.mem_append_left _ (by simp [B2s, e])))
theorem Ok.two_B (h : Ok q T) {B : Nat} {cs : List (List Nd)} (e2 : T.two = some (B, cs)) : B ≠ T.B := fun e => by
  have := (List.nodup_cons.1 (List.nodup_cons.1 h.apart).2).1
  rw [e2] at this
  exact this (List.mem_append_left _ (by simp [B2s, e]))
theorem Ok.node_two (h : Ok q T) {B : Nat} {cs : List (List Nd)} (e2 : T.two = some (B, cs)) {x : Nd} (hx : x ∈ nodes T) : x.b ≠ B := fun e => by
  have := (List.nodup_cons.1 (List.nodup_cons.1 h.apart).2).2
  rw [e2] at this
  exact (List.nodup_append.1 this).2.2 B (by simp [B2s]) x.b (List.mem_map.2 ⟨x, hx, rfl⟩) e.symm
theorem Ok.nodup (h : Ok q T) : ((nodes T).map Nd.b).Nodup := (List.nodup_append.1 (List.nodup_cons.1 (List.nodup_cons.1 h.apart).2).2).2.1
theorem mem1 {x : Nd} (h : x ∈ T.c.flatten) : x ∈ nodes T := List.mem_append_left _ h
theorem mem2 {B : Nat} {cs : List (List Nd)} (e2 : T.two = some (B, cs)) {x : Nd} (h : x ∈ cs.flatten) : x ∈ nodes T := List.mem_append_right _ (by rw [e2]; exact h)
end
/-- The table with an entry shifted. -/
def shift (T : Tb) (p : Nat) (r : List Nd) (B : Nat) (cs : List (List Nd)) (e : Nd) (k : Nat) : Tb :=
  { T with c := T.c.set p r, two := some (B, cs.set (sl cs e.s) (e :: chainAt cs (sl cs e.s))), work := k }
theorem shift_perm {T : Tb} {p B : Nat} {cs : List (List Nd)} {e : Nd} {r : List Nd} (e2 : T.two = some (B, cs)) (hp : p < T.c.length) (hc : chainAt T.c p = e :: r) (k0 : 0 < cs.length) (k : Nat) :
    (nodes (shift T p r B cs e k)).Perm (nodes T) ∧ ∃ X, (nodes T).Perm (e :: X) ∧ (∀ y ∈ (T.c.set p r).flatten, y ∈ X) ∧ (∀ y ∈ cs.flatten, y ∈ X) := by
  obtain ⟨A, C, h1, h2⟩ := flat_at hp
  obtain ⟨A', C', h1', h2'⟩ := flat_at (slotOf_lt cs.length e.s k0)
  have a : nodes T = A ++ (e :: r) ++ C ++ (A' ++ chainAt cs (slotOf cs.length e.s) ++ C') := by
    unfold nodes
    rw [h1, hc, e2]
    show _ ++ cs.flatten = _
    rw [h1']
  have b : nodes (shift T p r B cs e k) = A ++ r ++ C ++ (A' ++ (e :: chainAt cs (slotOf cs.length e.s)) ++ C') := by
    show (T.c.set p r).flatten ++ (cs.set (slotOf cs.length e.s) _).flatten = _
    rw [h2, h2']
    rfl
  have pa : (nodes T).Perm (e :: (A ++ r ++ C ++ (A' ++ chainAt cs (slotOf cs.length e.s) ++ C'))) := by
    rw [a]
    have : (A ++ (e :: r) ++ C ++ (A' ++ chainAt cs (slotOf cs.length e.s) ++ C')) = A ++ e :: (r ++ C ++ (A' ++ chainAt cs (slotOf cs.length e.s) ++ C')) := by simp
    rw [this]
    refine List.perm_middle.trans ?_
    simp [List.append_assoc]
  have pb : (nodes (shift T p r B cs e k)).Perm (e :: (A ++ r ++ C ++ (A' ++ chainAt cs (slotOf cs.length e.s) ++ C'))) := by
    rw [b]
    have : (A ++ r ++ C ++ (A' ++ (e :: chainAt cs (slotOf cs.length e.s)) ++ C')) = (A ++ r ++ C ++ A') ++ e :: (chainAt cs (slotOf cs.length e.s) ++ C') := by simp
    rw [this]
    refine List.perm_middle.trans ?_
    simp [List.append_assoc]
  refine ⟨pb.trans pa.symm, _, pa, fun y hy => ?_, fun y hy => ?_⟩
  · rw [h2] at hy
    exact List.mem_append_left _ hy
  · rw [h1'] at hy
    exact List.mem_append_right _ hy
theorem blocks_perm {q : Nat} {T T' : Tb} (hB : T'.B = T.B) (h2 : B2s T'.two = B2s T.two) (h : (nodes T').Perm (nodes T)) : (blocks q T').Perm (blocks q T) := by
  unfold blocks
  rw [hB, h2]
  exact ((h.map _).append_left _).cons _ |>.cons _
theorem Ok.shift {q : Nat} {T : Tb} {p B : Nat} {cs : List (List Nd)} {e : Nd} {r : List Nd} (h : Ok q T) (e2 : T.two = some (B, cs)) (hp : p < T.c.length) (hc : chainAt T.c p = e :: r) (k0 : 0 < cs.length) (k : Nat) (hpp : T.passed ≤ p) : Ok q (shift T p r B cs e k) := by
  have pm := (shift_perm e2 hp hc k0 k).1
  have hs := slotOf_lt cs.length e.s k0
  refine ⟨?_, fun i x hx => ?_, fun B' cs' e' i x hx => ?_, ?_, fun x hx => h.short x (pm.mem_iff.1 hx), ?_, fun i hi => ?_, ?_, fun x => (nomatch x)⟩
  · exact (blocks_perm (q := q) (T := T) (T' := Go.Proofs.Ytedpanfdkdbblaa.shift T p r B cs e k) rfl (by rw [e2]; rfl) pm).nodup_iff.2 h.apart
  · show slotOf (T.c.set p r).length x.s = i
    rw [List.length_set]
    have hx' : x ∈ chainAt (T.c.set p r) i := hx
    rw [chainAt_set _ _ _ _ hp] at hx'
    split at hx'
    · rename_i k; subst k
      exact h.p1 p x (by rw [hc]; exact List.mem_cons_of_mem _ hx')
    · exact h.p1 i x hx'
  · injection e' with e'
    injection e' with e1 e3
    subst e3
    show slotOf (cs.set _ _).length x.s = i
    rw [List.length_set]
    have hx : x ∈ chainAt (cs.set (slotOf cs.length e.s) (e :: chainAt cs (slotOf cs.length e.s))) i := hx
    rw [chainAt_set _ _ _ _ hs] at hx
    split at hx
    · rename_i k
      rcases List.mem_cons.1 hx with y | y
      · rw [y]; exact k
      · rw [← k]; exact h.p2 B cs e2 _ x y
    · exact h.p2 B cs e2 i x hx
  · exact (pm.map Nd.s).nodup_iff.2 h.names
  · show T.count = _
    rw [h.cnt, pm.length_eq]
  · show chainAt (T.c.set p r) i = []
    have hi' : i < T.passed := hi
    rw [chainAt_set _ _ _ _ hp, if_neg (by omega)]
    exact h.left i hi'
  · show T.passed ≤ (T.c.set p r).length
    rw [List.length_set]; exact h.pass
/-- A slot left behind. -/
theorem Ok.pass1 {q : Nat} {T : Tb} (h : Ok q T) (hp : T.passed < T.c.length) (hc : chainAt T.c T.passed = []) {o : Nat × List (List Nd)} (e2 : T.two = some o) : Ok q { T with passed := T.passed + 1 } :=
  { h with
    left := fun i hi => by
      have hi' : i < T.passed + 1 := hi
      by_cases e : i = T.passed
      · subst e; exact hc
      · exact h.left i (by omega)
    pass := hp
    one := fun e => by
      have : T.two = none := e
      rw [e2] at this; cases this }
theorem Ok.worked {q : Nat} {T : Tb} (h : Ok q T) (k : Nat) : Ok q { T with work := k } := { h with }
/-- The second array as the only one. -/
def ended (T : Tb) (B : Nat) (cs : List (List Nd)) : Tb := ⟨B, cs, none, 0, T.count, T.work⟩
theorem ended_nodes {q : Nat} {T : Tb} {B : Nat} {cs : List (List Nd)} (h : Ok q T) (e2 : T.two = some (B, cs)) (hp : T.passed = T.c.length) : nodes (ended T B cs) = nodes T ∧ T.c.flatten = [] := by
  have e : T.c.flatten = [] := empty_flat fun i hi => h.left i (by omega)
  refine ⟨?_, e⟩
  unfold nodes
  rw [e, e2]
  show cs.flatten ++ [] = [] ++ cs.flatten
  simp
theorem Ok.ended {q : Nat} {T : Tb} {B : Nat} {cs : List (List Nd)} (h : Ok q T) (e2 : T.two = some (B, cs)) (hp : T.passed = T.c.length) : Ok q (ended T B cs) := by
  obtain ⟨e, -⟩ := ended_nodes h e2 hp
  refine ⟨?_, fun i x hx => h.p2 B cs e2 i x hx, fun B' cs' e' => (nomatch e'), by rw [e]; exact h.names, by rw [e]; exact h.short, by rw [e]; exact h.cnt, fun i hi => absurd hi (Nat.not_lt_zero _), Nat.zero_le _, fun _ => rfl⟩
  unfold blocks
  rw [e]
  have a := h.apart
  unfold blocks at a
  rw [e2] at a
  have a1 := List.nodup_cons.1 a
  refine List.nodup_cons.2 ⟨fun m => a1.1 (List.mem_cons_of_mem _ m), (List.nodup_cons.1 a1.2).2⟩
/-- What the moving does to a table. -/
structure Mv (q : Nat) (T T' : Tb) : Prop where
  ok : Ok q T'
  perm : (nodes T').Perm (nodes T)
  work : T'.work ≤ 8
  count : T'.count = T.count
  sub : ∀ k, k ∈ blocks q T' → k ∈ blocks q T
  none_ : T.two = none → T'.two = none ∧ T'.c.length = T.c.length
  some_ : ∀ B cs, T.two = some (B, cs) → (T'.two = none ∧ T'.c.length = cs.length ∧ T.c.flatten.length ≤ 8) ∨ (∃ cs', T'.two = some (B, cs') ∧ cs'.length = cs.length ∧ T'.c.length = T.c.length ∧ T'.c.flatten.length + 8 = T.c.flatten.length ∧ 0 < T'.c.flatten.length)
end Go.Proofs.Ytedpanfdkdbblaa
