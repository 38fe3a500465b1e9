/- A set of names with scores as the document says it, in plain words: the names in their order. Plain mathematics: no program is named. -/
import Derived.Test.YtopnbfhkfagemaaDoorRows
namespace Go.Proofs.YtopnbfhkfagemaaDoor.SkM
set_option linter.unusedVariables false
abbrev E := List UInt8 × Int
def lt (a b : E) : Prop := a.2 < b.2 ∨ (a.2 = b.2 ∧ a.1 < b.1)
instance (a b : E) : Decidable (lt a b) := inferInstanceAs (Decidable (_ ∨ _))
theorem lt_irrefl (a : E) : ¬ lt a a := fun h => by
  rcases h with h | ⟨-, h⟩
  · omega
  · exact List.lt_irrefl _ h
theorem lt_trans {a b c : E} (h : lt a b) (k : lt b c) : lt a c := by
  rcases h with h | ⟨h1, h2⟩
  · rcases k with k | ⟨k1, -⟩
    · exact .inl (by omega)
    · exact .inl (by omega)
  · rcases k with k | ⟨k1, k2⟩
    · exact .inl (by omega)
    · exact .inr ⟨by omega, List.lt_trans h2 k2⟩
theorem lt_asymm {a b : E} (h : lt a b) : ¬ lt b a := fun k => lt_irrefl a (lt_trans h k)
theorem lt_total (a b : E) : lt a b ∨ a = b ∨ lt b a := by
  rcases Int.lt_trichotomy a.2 b.2 with h | h | h
  · exact .inl (.inl h)
  · by_cases k : a.1 < b.1
    · exact .inl (.inr ⟨h, k⟩)
    · by_cases k2 : b.1 < a.1
      · exact .inr (.inr (.inr ⟨h.symm, k2⟩))
      · exact .inr (.inl (Prod.ext (List.le_antisymm (List.not_lt.1 k2) (List.not_lt.1 k)) h))
  · exact .inr (.inr (.inl h))
/-- The list without a name. -/
def del (l : List E) (s : List UInt8) : List E := l.filter fun a => a.1 != s
/-- The list with one more. -/
def ins (x : E) (l : List E) : List E := l.takeWhile (fun a => decide (lt a x)) ++ x :: l.dropWhile (fun a => decide (lt a x))
def put (l : List E) (s : List UInt8) (v : Int) : List E := ins (s, v) (del l s)
def get (l : List E) (s : List UInt8) : Option Int := (l.find? fun a => a.1 == s).map Prod.snd
structure Ok (l : List E) : Prop where
  sorted : l.Pairwise lt
  names : (l.map Prod.fst).Nodup
theorem while_split {α : Type} {p : α → Bool} : ∀ {a b : List α}, (∀ y ∈ a, p y = true) → (∀ y ∈ b, p y = false) → (a ++ b).takeWhile p = a ∧ (a ++ b).dropWhile p = b
  | [], [], _, _ => ⟨rfl, rfl⟩
  | [], y :: r, _, h => by simp [h y (by simp)]
  | x :: a, b, h, k => by
    obtain ⟨h1, h2⟩ := while_split (a := a) (b := b) (fun y hy => h y (List.mem_cons_of_mem _ hy)) k
    simp [h x (by simp), h1, h2]
theorem ins_split {x : E} {a b : List E} (h : ∀ y ∈ a, lt y x) (k : ∀ y ∈ b, ¬ lt y x) : ins x (a ++ b) = a ++ x :: b := by
  obtain ⟨h1, h2⟩ := while_split (p := fun z => decide (lt z x)) (a := a) (b := b) (fun y hy => decide_eq_true (h y hy)) (fun y hy => decide_eq_false (k y hy))
  unfold ins
  rw [h1, h2]
/-- A sorted list parted where a question that the first ones answer with yes is answered with no. -/
theorem part (p : E → Prop) [DecidablePred p] (mono : ∀ a b, lt a b → p b → p a) : ∀ l : List E, l.Pairwise lt → ∃ a b, l = a ++ b ∧ (∀ y ∈ a, p y) ∧ ∀ y ∈ b, ¬ p y
  | [], _ => ⟨[], [], rfl, fun y h => (nomatch h), fun y h => (nomatch h)⟩
  | x :: r, h => by
    obtain ⟨h1, h2⟩ := List.pairwise_cons.1 h
    obtain ⟨a, b, rfl, ha, hb⟩ := part p mono r h2
    by_cases hp : p x
    · exact ⟨x :: a, b, rfl, fun y hy => by rcases List.mem_cons.1 hy with rfl | e; exact hp; exact ha y e, hb⟩
    · refine ⟨[], x :: (a ++ b), rfl, fun y h => (nomatch h), fun y hy k => ?_⟩
      rcases List.mem_cons.1 hy with rfl | e
      · exact hp k
      · exact hp (mono _ _ (h1 y e) k)
theorem del_sub (l : List E) (s : List UInt8) : (del l s).Sublist l := List.filter_sublist
theorem Ok.sub {l k : List E} (h : Ok l) (s : k.Sublist l) : Ok k := ⟨h.sorted.sublist s, h.names.sublist (s.map _)⟩
theorem Ok.del {l : List E} (h : Ok l) (s : List UInt8) : Ok (del l s) := h.sub (del_sub l s)
theorem mem_del {l : List E} {s : List UInt8} {y : E} : y ∈ SkM.del l s ↔ y ∈ l ∧ y.1 ≠ s := by
  unfold SkM.del
  rw [List.mem_filter]
  simp
theorem Ok.ins {a b : List E} {x : E} (h : Ok (a ++ b)) (k : ∀ y ∈ a, lt y x) (k2 : ∀ y ∈ b, ¬ lt y x) (n : ∀ y ∈ a ++ b, y.1 ≠ x.1) : Ok (a ++ x :: b) := by
  have hs := List.pairwise_append.1 h.sorted
  refine ⟨List.pairwise_append.2 ⟨hs.1, List.pairwise_cons.2 ⟨fun y hy => ?_, hs.2.1⟩, fun y hy z hz => ?_⟩, ?_⟩
  · rcases lt_total x y with e | e | e
    · exact e
    · exact absurd (congrArg Prod.fst e).symm (n y (List.mem_append_right _ hy))
    · exact absurd e (k2 y hy)
  · rcases List.mem_cons.1 hz with rfl | e
    · exact k y hy
    · exact hs.2.2 y hy z e
  · have pm : (a ++ x :: b).Perm (x :: (a ++ b)) := List.perm_middle
    rw [(pm.map Prod.fst).nodup_iff, List.map_cons, List.nodup_cons]
    refine ⟨fun m => ?_, h.names⟩
    obtain ⟨y, hy, e⟩ := List.mem_map.1 m
    exact n y hy e
theorem lt_mono (x : E) : ∀ a b, lt a b → lt b x → lt a x := fun _ _ h k => lt_trans h k
theorem get_none {l : List E} {s : List UInt8} : get l s = none ↔ ∀ y ∈ l, y.1 ≠ s := by
  unfold get
  rw [Option.map_eq_none_iff, List.find?_eq_none]
  simp
theorem get_some {l : List E} (h : (l.map Prod.fst).Nodup) {s : List UInt8} {v : Int} : get l s = some v ↔ (s, v) ∈ l := by
  induction l with
  | nil => simp [get]
  | cons a r ih =>
    rw [List.map_cons, List.nodup_cons] at h
    have ih := ih h.2
    unfold get at ih ⊢
    by_cases e : a.1 = s
    · simp only [List.find?_cons, e, beq_self_eq_true, Option.map_some, Option.some.injEq]
      refine ⟨fun k => List.mem_cons.2 (.inl (Prod.ext e.symm k.symm)), fun k => ?_⟩
      rcases List.mem_cons.1 k with k | k
      · exact (congrArg Prod.snd k).symm
      · exact absurd (List.mem_map.2 ⟨_, k, e.symm⟩) h.1
    · have e2 : (a.1 == s) = false := beq_eq_false_iff_ne.2 e
      simp only [List.find?_cons, e2]
      rw [ih]
      refine ⟨fun k => List.mem_cons_of_mem _ k, fun k => ?_⟩
      rcases List.mem_cons.1 k with k | k
      · exact absurd (congrArg Prod.fst k).symm e
      · exact k
theorem del_none {l : List E} {s : List UInt8} (h : get l s = none) : del l s = l := List.filter_eq_self.2 fun y hy => by simpa using get_none.1 h y hy
theorem del_mid {a b : List E} {x : E} (h : ((a ++ x :: b).map Prod.fst).Nodup) : del (a ++ x :: b) x.1 = a ++ b := by
  have pm : (a ++ x :: b).Perm (x :: (a ++ b)) := List.perm_middle
  rw [(pm.map Prod.fst).nodup_iff, List.map_cons, List.nodup_cons] at h
  have n : ∀ y ∈ a ++ b, y.1 ≠ x.1 := fun y hy e => h.1 (List.mem_map.2 ⟨y, hy, e⟩)
  unfold del
  rw [List.filter_append, List.filter_cons, if_neg (by simp), List.filter_eq_self.2 fun y hy => by simpa using n y (List.mem_append_left _ hy), List.filter_eq_self.2 fun y hy => by simpa using n y (List.mem_append_right _ hy)]
/-- A name that is there parts the list. -/
theorem Ok.at_ {l : List E} (h : Ok l) {s : List UInt8} {v : Int} (k : get l s = some v) : ∃ a b, l = a ++ (s, v) :: b ∧ (∀ y ∈ a, lt y (s, v)) ∧ (∀ y ∈ b, lt (s, v) y) ∧ SkM.del l s = a ++ b := by
  obtain ⟨a, b, rfl⟩ := List.append_of_mem ((get_some h.names).1 k)
  have hs := List.pairwise_append.1 h.sorted
  exact ⟨a, b, rfl, fun y hy => hs.2.2 y hy _ List.mem_cons_self, (List.pairwise_cons.1 hs.2.1).1, del_mid h.names⟩
theorem Ok.put_same {l : List E} (h : Ok l) {s : List UInt8} {v : Int} (k : get l s = some v) : SkM.put l s v = l := by
  obtain ⟨a, b, e, ha, hb, hd⟩ := h.at_ k
  unfold SkM.put
  rw [hd, ins_split ha fun y hy c => lt_asymm (hb y hy) c, e]
theorem Ok.put {l : List E} (h : Ok l) (s : List UInt8) (v : Int) : Ok (SkM.put l s v) := by
  obtain ⟨a, b, e, ha, hb⟩ := part (fun y => lt y (s, v)) (lt_mono _) (SkM.del l s) (h.del s).sorted
  have hd := h.del s
  unfold SkM.put
  rw [e, ins_split ha hb]
  rw [e] at hd
  exact hd.ins ha hb fun y hy => (mem_del.1 (by rw [e]; exact hy)).2
theorem ins_length (x : E) (l : List E) : (ins x l).length = l.length + 1 := by
  unfold ins
  rw [List.length_append, List.length_cons, ← Nat.add_assoc, ← List.length_append, List.takeWhile_append_dropWhile]
theorem ins_mem (x y : E) (l : List E) : y ∈ ins x l ↔ y = x ∨ y ∈ l := by
  unfold ins
  have : l = l.takeWhile (fun a => decide (lt a x)) ++ l.dropWhile (fun a => decide (lt a x)) := List.takeWhile_append_dropWhile.symm
  conv => rhs; rw [this]
  simp only [List.mem_append, List.mem_cons]
  constructor
  · rintro (h | h | h)
    · exact .inr (.inl h)
    · exact .inl h
    · exact .inr (.inr h)
  · rintro (h | h | h)
    · exact .inr (.inl h)
    · exact .inl h
    · exact .inr (.inr h)
theorem put_length (l : List E) (s : List UInt8) (v : Int) : (put l s v).length ≤ l.length + 1 := by
  unfold put
  rw [ins_length]
  have := (del_sub l s).length_le
  omega
theorem put_mem {l : List E} {s : List UInt8} {v : Int} {y : E} : y ∈ put l s v ↔ y = (s, v) ∨ (y ∈ l ∧ y.1 ≠ s) := by
  unfold put
  rw [ins_mem, mem_del]
theorem get_put {l : List E} (h : Ok l) (s t : List UInt8) (v : Int) : get (put l s v) t = if s = t then some v else get l t := by
  have hp := h.put s v
  split
  · rename_i e
    subst e
    exact (get_some hp.names).2 (put_mem.2 (.inl rfl))
  · rename_i e
    cases k : get l t with
    | none =>
      rw [get_none] at k ⊢
      intro y hy
      rcases put_mem.1 hy with rfl | ⟨h1, -⟩
      · exact e
      · exact k y h1
    | some u =>
      rw [get_some hp.names]
      exact put_mem.2 (.inr ⟨(get_some h.names).1 k, fun x => e x.symm⟩)
theorem get_del {l : List E} (h : Ok l) (s t : List UInt8) : get (del l s) t = if s = t then none else get l t := by
  split
  · rename_i e
    subst e
    rw [get_none]
    exact fun y hy => (mem_del.1 hy).2
  · rename_i e
    cases k : get l t with
    | none =>
      rw [get_none] at k ⊢
      exact fun y hy => k y (mem_del.1 hy).1
    | some u =>
      rw [get_some (h.del s).names, mem_del]
      exact ⟨(get_some h.names).1 k, fun x => e x.symm⟩
theorem del_length {l : List E} (h : Ok l) (s : List UInt8) : (del l s).length + (if (get l s).isSome then 1 else 0) = l.length := by
  cases k : get l s with
  | none => rw [del_none k]; rfl
  | some v =>
    obtain ⟨a, b, e, -, -, hd⟩ := h.at_ k
    rw [hd, e]
    simp
    omega
theorem put_len {l : List E} (h : Ok l) (s : List UInt8) (v : Int) : (put l s v).length = if (get l s).isSome then l.length else l.length + 1 := by
  have := del_length h s
  unfold put
  rw [ins_length]
  split
  · rename_i e; rw [if_pos e] at this; exact this
  · rename_i e; rw [if_neg e] at this; omega
end Go.Proofs.YtopnbfhkfagemaaDoor.SkM
