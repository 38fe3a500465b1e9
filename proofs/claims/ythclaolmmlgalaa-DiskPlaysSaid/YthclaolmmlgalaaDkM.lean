/- What the document's disk keeps when a file is put in its place or taken out: order, what is found, sizes. Plain mathematics: no program is named. -/
import Derived.Test.YthclaolmmlgalaaDiskM
namespace Go.Proofs.Ythclaolmmlgalaa.DiskM

theorem lt_iff : ∀ a b : List UInt8, lt a b = true ↔ a < b
  | [], [] => by simp [lt]
  | [], _ :: _ => by simp [lt]
  | _ :: _, [] => by simp [lt]
  | c :: a, d :: b => by
    rw [lt, List.cons_lt_cons_iff]
    by_cases h : c < d
    · simp [h]
    · by_cases k : d < c
      · have : c ≠ d := fun e => by subst e; exact h k
        simp [h, k, this]
      · have e : c = d := UInt8.le_antisymm (UInt8.not_lt.1 k) (UInt8.not_lt.1 h)
        subst e
        simp [UInt8.lt_irrefl, lt_iff a b]
theorem lt_trans {a b c : List UInt8} (h : lt a b = true) (k : lt b c = true) : lt a c = true := (lt_iff _ _).2 (List.lt_trans ((lt_iff _ _).1 h) ((lt_iff _ _).1 k))
theorem lt_ne {a b : List UInt8} (h : lt a b = true) : a ≠ b := fun e => by
  subst e
  exact List.lt_irrefl a ((lt_iff _ _).1 h)
theorem lt_of_not {a b : List UInt8} (h : a ≠ b) (k : lt b a = false) : lt a b = true := by
  rw [lt_iff]
  have k' : ¬ b < a := fun x => by rw [(lt_iff _ _).2 x] at k; cases k
  by_cases x : a < b
  · exact x
  · exact absurd (List.le_antisymm (List.not_lt.1 k') (List.not_lt.1 x)) h
/-- Names rise. -/
def Rises (l : List F) : Prop := l.Pairwise fun f g => lt f.name g.name = true
/-- How many bytes stand under a name. -/
def len (l : List F) (s : List UInt8) : Nat := match find l s with | some f => f.b.length | none => 0
theorem find_cons (g : F) (r : List F) (s : List UInt8) : find (g :: r) s = if g.name = s then some g else find r s := by
  unfold find
  by_cases h : g.name = s <;> simp [h]
theorem find_name {l : List F} {s : List UInt8} {f : F} (h : find l s = some f) : f.name = s := by
  have := List.find?_some h
  simpa using this
theorem find_mem {l : List F} {s : List UInt8} {f : F} (h : find l s = some f) : f ∈ l := List.mem_of_find?_eq_some h
theorem find_put : ∀ (l : List F) (f : F) (s : List UInt8), find (put l f) s = if f.name = s then some f else find l s
  | [], f, s => by rw [put, find_cons]
  | g :: r, f, s => by
    rw [put]
    split
    · rename_i h
      rw [find_cons, find_cons]
      by_cases e : f.name = s
      · simp [e]
      · rw [if_neg e, if_neg e, if_neg (by rw [h]; exact e)]
    · rename_i h
      split
      · rw [find_cons]
      · rw [find_cons, find_put r f s, find_cons]
        by_cases e : f.name = s
        · rw [if_pos e, if_pos e, if_neg (fun x => h (x.trans e.symm))]
        · rw [if_neg e, if_neg e]
theorem find_out : ∀ (l : List F) (t s : List UInt8), find (out l t) s = if s = t then none else find l s
  | [], t, s => by simp [out, find]
  | g :: r, t, s => by
    have ih := find_out r t s
    unfold out at ih ⊢
    rw [List.filter_cons]
    by_cases h : g.name = t
    · rw [if_neg (by simp [h]), ih, find_cons]
      by_cases e : s = t
      · simp [e]
      · rw [if_neg e, if_neg e, if_neg (by rw [h]; exact Ne.symm e)]
    · rw [if_pos (by simp [h]), find_cons, ih, find_cons]
      by_cases e : s = t
      · subst e
        simp [h]
      · simp [e]
theorem mem_put : ∀ {l : List F} {f x : F}, x ∈ put l f → x = f ∨ x ∈ l
  | [], f, x, h => by simpa [put] using h
  | g :: r, f, x, h => by
    rw [put] at h
    split at h
    · rcases List.mem_cons.1 h with e | e
      · exact .inl e
      · exact .inr (List.mem_cons_of_mem _ e)
    · split at h
      · rcases List.mem_cons.1 h with e | e
        · exact .inl e
        · exact .inr e
      · rcases List.mem_cons.1 h with e | e
        · exact .inr (e ▸ List.mem_cons_self)
        · rcases mem_put e with y | y
          · exact .inl y
          · exact .inr (List.mem_cons_of_mem _ y)
theorem rises_put : ∀ {l : List F} (f : F), Rises l → Rises (put l f)
  | [], f, _ => by simp [put, Rises]
  | g :: r, f, h => by
    obtain ⟨h1, h2⟩ := List.pairwise_cons.1 h
    rw [put]
    split
    · rename_i e
      exact List.pairwise_cons.2 ⟨fun x hx => by rw [← e]; exact h1 x hx, h2⟩
    · rename_i e
      split
      · rename_i k
        exact List.pairwise_cons.2 ⟨fun x hx => by
          rcases List.mem_cons.1 hx with y | y
          · rw [y]; exact k
          · exact lt_trans k (h1 x y), h⟩
      · rename_i k
        refine List.pairwise_cons.2 ⟨fun x hx => ?_, rises_put f h2⟩
        rcases mem_put hx with y | y
        · rw [y]; exact lt_of_not e (by simpa using k)
        · exact h1 x y
theorem rises_out {l : List F} (s : List UInt8) (h : Rises l) : Rises (out l s) := List.Pairwise.filter _ h
theorem find_low {l : List F} {s : List UInt8} (h : ∀ x ∈ l, lt s x.name = true) : find l s = none := by
  unfold find
  rw [List.find?_eq_none]
  intro x hx e
  exact lt_ne (h x hx) (by simpa using (beq_iff_eq.1 e).symm)
theorem len_cons (g : F) (r : List F) (s : List UInt8) : len (g :: r) s = if g.name = s then g.b.length else len r s := by
  unfold len
  rw [find_cons]
  by_cases h : g.name = s <;> simp [h]
theorem used_cons (g : F) (r : List F) : used (g :: r) = g.b.length + used r := by simp [used]
theorem used_put : ∀ {l : List F} (f : F), Rises l → used (put l f) + len l f.name = used l + f.b.length ∧ (put l f).length = if (find l f.name).isSome then l.length else l.length + 1
  | [], f, _ => by simp [put, used, len, find]
  | g :: r, f, h => by
    obtain ⟨h1, h2⟩ := List.pairwise_cons.1 h
    rw [put, len_cons, find_cons]
    by_cases e : g.name = f.name
    · rw [if_pos e, if_pos e, if_pos e, used_cons, used_cons]
      refine ⟨by omega, by simp⟩
    · rw [if_neg e, if_neg e, if_neg e]
      split
      · rename_i k
        have n : find r f.name = none := find_low fun x hx => lt_trans k (h1 x hx)
        have z : len r f.name = 0 := by unfold len; rw [n]
        rw [z, n, used_cons, used_cons]
        exact ⟨by omega, by simp⟩
      · obtain ⟨a, b⟩ := used_put f h2
        rw [used_cons, used_cons, List.length_cons, List.length_cons, b]
        refine ⟨by omega, ?_⟩
        split <;> rfl
theorem put_len : ∀ (l : List F) (f : F), (put l f).length ≤ l.length + 1
  | [], f => by simp [put]
  | g :: r, f => by
    have := put_len r f
    rw [put]
    split
    · simp
    · split
      · simp
      · simp only [List.length_cons]; omega
theorem append_len (d : D) (s b : List UInt8) : (append d s b).2.l.length ≤ d.l.length + 1 := by
  unfold append
  split
  · simp
  · split
    · simp
    · split
      · simp
      · split
        · exact put_len _ _
        · exact put_len _ _
theorem out_none {l : List F} {s : List UInt8} (h : find l s = none) : out l s = l := by
  unfold out
  rw [List.filter_eq_self]
  intro x hx
  have := List.find?_eq_none.1 h x hx
  simpa using this
theorem used_out : ∀ {l : List F} (s : List UInt8), Rises l → used (out l s) + len l s = used l ∧ (out l s).length + (if (find l s).isSome then 1 else 0) = l.length
  | [], s, _ => by simp [out, used, len, find]
  | g :: r, s, h => by
    obtain ⟨h1, h2⟩ := List.pairwise_cons.1 h
    rw [len_cons, find_cons]
    by_cases e : g.name = s
    · have n : find r s = none := find_low fun x hx => by rw [← e]; exact h1 x hx
      have o : out (g :: r) s = r := by
        have := out_none n
        unfold out at this ⊢
        rw [List.filter_cons, if_neg (by simp [e]), this]
      rw [o, if_pos e, if_pos e, used_cons]
      exact ⟨by omega, by simp⟩
    · have o : out (g :: r) s = g :: out r s := by
        unfold out
        rw [List.filter_cons, if_pos (by simp [e])]
      obtain ⟨a, b⟩ := used_out s h2
      rw [o, if_neg e, if_neg e, used_cons, used_cons, List.length_cons, List.length_cons]
      exact ⟨by omega, by omega⟩
theorem len_le : ∀ (l : List F) (s : List UInt8), len l s ≤ used l
  | [], s => by simp [len, find]
  | g :: r, s => by
    have := len_le r s
    rw [len_cons, used_cons]
    split <;> omega
theorem mem_out {l : List F} {s : List UInt8} {x : F} (h : x ∈ out l s) : x ∈ l := (List.mem_filter.1 h).1
theorem find_mem_rises : ∀ {l : List F} {f : F}, Rises l → f ∈ l → find l f.name = some f
  | [], _, _, h => by cases h
  | g :: r, f, h, hf => by
    obtain ⟨h1, h2⟩ := List.pairwise_cons.1 h
    rw [find_cons]
    rcases List.mem_cons.1 hf with e | e
    · subst e; simp
    · rw [if_neg (lt_ne (h1 f e)), find_mem_rises h2 e]
/-- A file that is there, put: the others stay where they stand. -/
theorem put_split : ∀ (a : List F) (x : F) (r : List F) (f : F), Rises (a ++ x :: r) → f.name = x.name → put (a ++ x :: r) f = a ++ f :: r
  | [], x, r, f, _, h => by rw [List.nil_append, put, if_pos h.symm]; rfl
  | g :: a, x, r, f, h, e => by
    obtain ⟨h1, h2⟩ := List.pairwise_cons.1 h
    have k := h1 x (by simp)
    have n : lt f.name g.name = false := by
      cases q : lt f.name g.name with
      | false => rfl
      | true => rw [e] at q; exact absurd rfl (lt_ne (lt_trans q k))
    rw [List.cons_append, put, if_neg (by rw [e]; exact lt_ne k), if_neg (by simp [n]), put_split a x r f h2 e]
    rfl
theorem rises_nodup {l : List F} (h : Rises l) : (l.map F.name).Nodup := List.pairwise_map.2 (h.imp fun k => lt_ne k)
end Go.Proofs.Ythclaolmmlgalaa.DiskM
