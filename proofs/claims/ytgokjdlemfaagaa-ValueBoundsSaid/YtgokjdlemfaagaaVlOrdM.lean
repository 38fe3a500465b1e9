/- Names that rise; scores of one number that are in order and unlike: the same. Plain mathematics. -/
import Derived.Test.YtgokjdlemfaagaaVlMay
namespace Go.Proofs.Ytgokjdlemfaagaa
set_option linter.unusedVariables false
theorem bytesLess_iff : ∀ a b : List UInt8, Op.bytesLess a b = true ↔ a < b
  | [], [] => by simp [Op.bytesLess]
  | [], _ :: _ => by simp [Op.bytesLess]
  | _ :: _, [] => by simp [Op.bytesLess]
  | c :: a, d :: b => by
    rw [Op.bytesLess, List.cons_lt_cons_iff]
    by_cases h : c < d
    · simp [h]
    · by_cases k : c = d
      · subst k
        simp [UInt8.lt_irrefl, bytesLess_iff a b]
      · simp [h, k]
/-- Does a name come ahead of another one? -/
def nlt (a b : ByteArray) : Prop := a.toList < b.toList
theorem nlt_iff (a b : ByteArray) : Op.bytesLess a.toList b.toList = true ↔ nlt a b := bytesLess_iff _ _
theorem nlt_trans {a b c : ByteArray} (h : nlt a b) (k : nlt b c) : nlt a c := List.lt_trans h k
theorem nlt_irrefl (a : ByteArray) : ¬ nlt a a := List.lt_irrefl _
theorem nlt_total (a b : ByteArray) : nlt a b ∨ a.toList = b.toList ∨ nlt b a := by
  by_cases h : a.toList < b.toList
  · exact .inl h
  · by_cases k : b.toList < a.toList
    · exact .inr (.inr k)
    · exact .inr (.inl (List.le_antisymm (List.not_lt.1 k) (List.not_lt.1 h)))
theorem bl_no {a b : ByteArray} (h : ¬ nlt a b) : Op.bytesLess a.toList b.toList = false := Bool.eq_false_iff.2 fun k => h ((nlt_iff a b).1 k)
theorem le_not (x b : ByteArray) : (!Vl.le x b) = Op.bytesLess b.toList x.toList := by
  unfold Vl.le
  rcases nlt_total x b with h | h | h
  · have h1 : ¬ nlt b x := fun k => nlt_irrefl _ (nlt_trans h k)
    rw [(nlt_iff x b).2 h, bl_no h1]
    simp
  · have h1 : ¬ nlt b x := fun k => nlt_irrefl b (by unfold nlt at k ⊢; rw [h] at k; exact k)
    rw [bl_no h1, h, beq_self_eq_true, Bool.or_true]
    rfl
  · have h1 : ¬ nlt x b := fun k => nlt_irrefl _ (nlt_trans h k)
    have h2 : ¬ x.toList = b.toList := fun k => nlt_irrefl b (by unfold nlt at h ⊢; rw [k] at h; exact h)
    rw [(nlt_iff b x).2 h, bl_no h1, beq_eq_false_iff_ne.2 h2]
    rfl
theorem pair_cons {a b : ByteArray} {r : List ByteArray} : (a :: b :: r).Pairwise nlt ↔ nlt a b ∧ (b :: r).Pairwise nlt := by
  constructor
  · intro h
    obtain ⟨h1, h2⟩ := List.pairwise_cons.1 h
    exact ⟨h1 b (by simp), h2⟩
  · rintro ⟨h1, h2⟩
    refine List.pairwise_cons.2 ⟨fun y hy => ?_, h2⟩
    rcases List.mem_cons.1 hy with rfl | hy
    · exact h1
    · exact nlt_trans h1 ((List.pairwise_cons.1 h2).1 y hy)
theorem riseFrom_pair : ∀ (b : ByteArray) (r : List ByteArray), Vl.riseFrom b r = true ↔ (b :: r).Pairwise nlt
  | b, [] => by simp [Vl.riseFrom]
  | b, s :: r => by
    rw [Vl.riseFrom, Bool.and_eq_true, le_not, nlt_iff, riseFrom_pair s r, pair_cons]
theorem rise_pair (l : List ByteArray) : Vl.rise l = true ↔ l.Pairwise nlt := by
  cases l with
  | nil => simp [Vl.rise]
  | cons s r => exact riseFrom_pair s r
theorem less_same (v : Int) (a b : ByteArray) : Vl.less (a, v) (b, v) = Op.bytesLess a.toList b.toList := by unfold Vl.less; simp
theorem scores_pair (v : Int) : ∀ l : List ByteArray, (Vl.sorted (l.map fun s => (s, v)) && Vl.unique (l.map fun s => (s, v))) = true ↔ l.Pairwise nlt
  | [] => by simp [Vl.sorted, Vl.unique]
  | [a] => by simp [Vl.sorted, Vl.unique]
  | a :: b :: r => by
    have ih := scores_pair v (b :: r)
    rw [pair_cons, ← ih]
    simp only [List.map_cons, Vl.sorted, Vl.unique, Bool.and_eq_true, Bool.not_eq_true', less_same] at ih ⊢
    constructor
    · rintro ⟨⟨h1, h2⟩, h3, h4, h5⟩
      refine ⟨?_, h2, h4, h5⟩
      rcases nlt_total a b with h | h | h
      · exact h
      · simp [h] at h3
      · rw [(nlt_iff b a).2 h] at h1; cases h1
    · rintro ⟨h1, h2, h4, h5⟩
      have hp := List.pairwise_cons.1 (pair_cons.2 ⟨h1, ih.1 ⟨h2, h4, h5⟩⟩)
      refine ⟨⟨Bool.eq_false_iff.2 fun k => nlt_irrefl a (nlt_trans h1 ((nlt_iff b a).1 k)), h2⟩, ?_, h4, h5⟩
      rw [← List.map_cons (f := fun s => (s, v)), List.any_map, List.any_eq_false]
      intro y hy
      simp only [Function.comp]
      intro k
      have k2 : a.toList = y.toList := by simpa using k
      exact nlt_irrefl a (by have := hp.1 y hy; unfold nlt at this ⊢; rw [← k2] at this; exact this)
theorem scores_rise (v : Int) (l : List ByteArray) : (Vl.sorted (l.map fun s => (s, v)) && Vl.unique (l.map fun s => (s, v))) = Vl.rise l := by
  have h1 := scores_pair v l
  have h2 := rise_pair l
  cases q : Vl.rise l
  · refine Bool.eq_false_iff.2 fun k => ?_
    rw [h2.2 (h1.1 k)] at q; cases q
  · exact h1.2 (h2.1 q)
end Go.Proofs.Ytgokjdlemfaagaa
