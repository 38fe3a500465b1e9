/- Sizes of chunks that stand side by side. Plain mathematics. -/
import Derived.Test.YteghokakjonblaaChRow
namespace Go.Proofs.Yteghokakjonblaa
set_option linter.unusedVariables false
def Adj : List Nat → Prop
  | a :: b :: r => 16 ≤ a + b ∧ Adj (b :: r)
  | _ => True
theorem Adj.cons_iff (a : Nat) (post : List Nat) : Adj (a :: post) ↔ (∀ y, post.head? = some y → 16 ≤ a + y) ∧ Adj post := by
  cases post with
  | nil => simp [Adj]
  | cons b r => simp [Adj]
theorem Adj.app : ∀ (pre : List Nat) (a : Nat) (post : List Nat), Adj (pre ++ a :: post) ↔ (Adj pre ∧ ∀ x, pre.getLast? = some x → 16 ≤ x + a) ∧ Adj (a :: post)
  | [], a, post => by simp [Adj]
  | [x], a, post => by
    show 16 ≤ x + a ∧ Adj (a :: post) ↔ _
    simp [Adj]
  | x :: y :: r, a, post => by
    have k := Adj.app (y :: r) a post
    show 16 ≤ x + y ∧ Adj ((y :: r) ++ a :: post) ↔ _
    rw [k]
    have e : Adj (x :: y :: r) ↔ 16 ≤ x + y ∧ Adj (y :: r) := Iff.rfl
    rw [e, List.getLast?_cons_cons]
    constructor
    · rintro ⟨a1, ⟨a2, a3⟩, a4⟩; exact ⟨⟨⟨a1, a2⟩, a3⟩, a4⟩
    · rintro ⟨⟨⟨a1, a2⟩, a3⟩, a4⟩; exact ⟨a1, ⟨a2, a3⟩, a4⟩
theorem Adj.mid (pre : List Nat) (a : Nat) (post : List Nat) : Adj (pre ++ a :: post) ↔ (Adj pre ∧ ∀ x, pre.getLast? = some x → 16 ≤ x + a) ∧ (∀ y, post.head? = some y → 16 ≤ a + y) ∧ Adj post := by
  rw [Adj.app, Adj.cons_iff]
theorem Adj.two (pre : List Nat) (a b : Nat) (post : List Nat) : Adj (pre ++ a :: b :: post) ↔ (Adj pre ∧ ∀ x, pre.getLast? = some x → 16 ≤ x + a) ∧ 16 ≤ a + b ∧ (∀ y, post.head? = some y → 16 ≤ b + y) ∧ Adj post := by
  rw [Adj.app, Adj.cons_iff, Adj.cons_iff]
  simp
structure Nice (ns : List Nat) : Prop where
  all : ∀ n ∈ ns, 1 ≤ n ∧ n ≤ 32
  adj : Adj ns
theorem Nice.few : ∀ {ns : List Nat}, Nice ns → 8 * ns.length ≤ ns.sum + 7
  | [], _ => by simp
  | [a], h => by have := (h.all a (by simp)).1; simp; omega
  | a :: b :: r, h => by
    have ad := h.adj
    have k : Nice r := ⟨fun n hn => h.all n (by simp [hn]), ((Adj.cons_iff b r).1 ad.2).2⟩
    have := k.few
    have := ad.1
    simp; omega
theorem Nice.len_le {ns : List Nat} (h : Nice ns) : ns.length ≤ ns.sum := by
  have : ∀ l : List Nat, (∀ n ∈ l, 1 ≤ n) → l.length ≤ l.sum := fun l => by
    induction l with
    | nil => intro _; simp
    | cons a r ih =>
      intro k
      have := ih fun n hn => k n (by simp [hn])
      have := k a (by simp)
      simp; omega
  exact this ns fun n hn => (h.all n hn).1
/-- One more in a chunk that is not full. -/
theorem Nice.up {pre post : List Nat} {a : Nat} (h : Nice (pre ++ a :: post)) (ha : a < 32) : Nice (pre ++ (a + 1) :: post) := by
  have m := (Adj.mid _ _ _).1 h.adj
  refine ⟨fun n hn => ?_, (Adj.mid _ _ _).2 ⟨⟨m.1.1, fun x hx => ?_⟩, fun y hy => ?_, m.2.2⟩⟩
  · rcases List.mem_append.1 hn with k | k
    · exact h.all n (by simp [k])
    · rcases List.mem_cons.1 k with rfl | k
      · omega
      · exact h.all n (by simp [k])
  · have := m.1.2 x hx; omega
  · have := m.2.1 y hy; omega
/-- A full chunk halved, one more in the left or in the right half. -/
theorem Nice.halved {pre post : List Nat} {a b c : Nat} (h : Nice (pre ++ a :: post)) (hb : 16 ≤ b ∧ b ≤ 32) (hc : 16 ≤ c ∧ c ≤ 32) : Nice (pre ++ b :: c :: post) := by
  have m := (Adj.mid _ _ _).1 h.adj
  refine ⟨fun n hn => ?_, (Adj.two _ _ _ _).2 ⟨⟨m.1.1, fun x hx => by omega⟩, by omega, fun y hy => by omega, m.2.2⟩⟩
  rcases List.mem_append.1 hn with k | k
  · exact h.all n (by simp [k])
  · rcases List.mem_cons.1 k with rfl | k
    · omega
    · rcases List.mem_cons.1 k with rfl | k
      · omega
      · exact h.all n (by simp [k])
theorem Nice.one : Nice [1] := ⟨by simp, trivial⟩
theorem Nice.front {a : Nat} {post : List Nat} (h : Nice (a :: post)) (ha : 32 ≤ a) : Nice (1 :: a :: post) :=
  ⟨fun n hn => by
    rcases List.mem_cons.1 hn with rfl | k
    · omega
    · exact h.all n k, by show 16 ≤ 1 + a ∧ Adj (a :: post); exact ⟨by omega, h.adj⟩⟩
theorem Nice.back {a : Nat} {pre : List Nat} (h : Nice (pre ++ [a])) (ha : 32 ≤ a) : Nice (pre ++ a :: [1]) := by
  have m := (Adj.mid _ _ _).1 h.adj
  refine ⟨fun n hn => ?_, (Adj.two _ _ _ _).2 ⟨m.1, by omega, (fun y hy => by cases hy), trivial⟩⟩
  rcases List.mem_append.1 hn with k | k
  · exact h.all n (by simp [k])
  · rcases List.mem_cons.1 k with rfl | k
    · exact h.all _ (by simp)
    · have : n = 1 := by simpa using k
      omega
/-- A chunk that lost its last text taken out. -/
theorem Nice.gone {pre post : List Nat} (h : Nice (pre ++ 1 :: post)) : Nice (pre ++ post) := by
  have m := (Adj.mid _ _ _).1 h.adj
  refine ⟨fun n hn => h.all n ?_, ?_⟩
  · rcases List.mem_append.1 hn with k | k <;> simp [k]
  · cases post with
    | nil => rw [List.append_nil]; exact m.1.1
    | cons y r =>
      refine (Adj.app _ _ _).2 ⟨⟨m.1.1, fun x hx => ?_⟩, m.2.2⟩
      have a := m.1.2 x hx
      have b := m.2.1 y rfl
      omega
/-- A chunk that lost a text, with its neighbours. -/
theorem Nice.less {pre post : List Nat} {a : Nat} (h : Nice (pre ++ (a + 1) :: post)) (ha : 1 ≤ a) (h1 : ∀ x, pre.getLast? = some x → 16 ≤ x + a) (h2 : ∀ y, post.head? = some y → 16 ≤ a + y) : Nice (pre ++ a :: post) := by
  have m := (Adj.mid _ _ _).1 h.adj
  refine ⟨fun n hn => ?_, (Adj.mid _ _ _).2 ⟨⟨m.1.1, h1⟩, h2, m.2.2⟩⟩
  rcases List.mem_append.1 hn with k | k
  · exact h.all n (by simp [k])
  · rcases List.mem_cons.1 k with rfl | k
    · have := h.all (n + 1) (by simp); omega
    · exact h.all n (by simp [k])
theorem Nice.left {pre post : List Nat} {x a : Nat} (h : Nice (pre ++ x :: (a + 1) :: post)) (hs : x + a < 16) : Nice (pre ++ (x + a) :: post) := by
  have m := (Adj.two _ _ _ _).1 h.adj
  have x1 := (h.all x (by simp)).1
  refine ⟨fun n hn => ?_, (Adj.mid _ _ _).2 ⟨⟨m.1.1, fun z hz => ?_⟩, fun y hy => ?_, m.2.2.2⟩⟩
  · rcases List.mem_append.1 hn with k | k
    · exact h.all n (by simp [k])
    · rcases List.mem_cons.1 k with rfl | k
      · omega
      · exact h.all n (by simp [k])
  · have := m.1.2 z hz; omega
  · have := m.2.2.1 y hy; omega
theorem Nice.right {pre post : List Nat} {a y : Nat} (h : Nice (pre ++ (a + 1) :: y :: post)) (hs : a + y < 16) (ha : 1 ≤ a) (h1 : ∀ x, pre.getLast? = some x → 16 ≤ x + a) : Nice (pre ++ (a + y) :: post) := by
  have m := (Adj.two _ _ _ _).1 h.adj
  have y1 := (h.all y (by simp)).1
  refine ⟨fun n hn => ?_, (Adj.mid _ _ _).2 ⟨⟨m.1.1, fun z hz => ?_⟩, fun z hz => ?_, m.2.2.2⟩⟩
  · rcases List.mem_append.1 hn with k | k
    · exact h.all n (by simp [k])
    · rcases List.mem_cons.1 k with rfl | k
      · omega
      · exact h.all n (by simp [k])
  · have := h1 z hz; omega
  · have := m.2.2.1 z hz; omega
def lens (cs : List Ck) : List Nat := cs.map fun c => c.l.length
theorem flat_len (cs : List Ck) : (flat cs).length = (lens cs).sum := by
  unfold flat lens
  rw [List.length_flatten, List.map_map]
  rfl
theorem lens_mid (a b : List Ck) (c : Ck) : lens (a ++ c :: b) = lens a ++ c.l.length :: lens b := by unfold lens; simp
theorem Nice.nil {cs : List Ck} (h : Nice (lens cs)) (e : (flat cs).length = 0) : cs = [] := by
  have := h.len_le
  rw [← flat_len, e] at this
  unfold lens at this
  rw [List.length_map] at this
  exact List.length_eq_zero_iff.1 (by omega)
theorem Nice.nil_of {pre cs : List Ck} (h : Nice (lens cs)) (hs : ∀ c ∈ pre, c ∈ cs) (e : (flat pre).length = 0) : pre = [] := by
  cases pre with
  | nil => rfl
  | cons c r =>
    have := (h.all c.l.length (List.mem_map.2 ⟨c, hs c (by simp), rfl⟩)).1
    rw [flat_cons, List.length_append] at e
    omega
end Go.Proofs.Yteghokakjonblaa
