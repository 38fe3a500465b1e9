/- A drawn region walked by hand over a condition on what has come up and on the world: a load may be taken first though a later store, which waits for it, turns its cell. Plain matter of the model's orders: no program is named. -/
import Derived.Test.YteakhlnnepjhpaaRows
import Derived.WalkKit
import Derived.Deep.RegionHeld3
namespace Go.Proofs.Yteakhlnnepjhpaa
open Go Go.RowKit
set_option linter.unusedVariables false
/-- Whatever order is picked from here on, and S holds of what has come up and of the world behind every operation. -/
def anyL (P : Program) (md : Region.Mode) (ops : Array Oper) (Q : Exit → Act → World → Prop) (S : Array Bool → World → Prop) : Nat → Array Bool → Act → World → Prop
 | 0, listed, a, w => Region.ready md ops listed = [] ∧ Q .normal a w
 | fuel + 1, listed, a, w =>
  (Region.ready md ops listed = [] → Q .normal a w) ∧
  ∀ i ∈ Region.ready md ops listed, wpOp P ops Q i (fun a' w' => S (listed.setIfInBounds i true) w' ∧ anyL P md ops Q S fuel (listed.setIfInBounds i true) a' w') a w
section
variable {P : Program} {ops : Array Oper} {Q : Exit → Act → World → Prop} {md : Region.Mode} {S : Array Bool → World → Prop}
theorem any_of_L : ∀ (fuel : Nat) (listed : Array Bool) (a : Act) (w : World), anyL P md ops Q S fuel listed a w → wpAny P md ops Q fuel listed a w
 | 0, _, _, _, h => h
 | fuel + 1, _, _, _, h => ⟨h.1, fun i hi => wpOp_mono (fun a' w' h' => any_of_L fuel _ a' w' h'.2) (h.2 i hi)⟩
/-- Those of D wait for i, or for others of D. -/
def waits (md : Region.Mode) (ops : Array Oper) (i : Nat) (D : List Nat) : Bool := D.all fun d => d != i && (ops[d]?).any fun o => o.after.any fun e => Region.binds md e && (e.on == i || D.contains e.on)
theorem getD_unset {l : Array Bool} {i j : Nat} (h : j ≠ i) (d : Bool) : (l.setIfInBounds i true).getD j d = l.getD j d := getD_set_ne d (fun e => h e.symm)
theorem anyL_first {i : Nat} {oi : Oper} {v : Value} (hi : ops[i]? = some oi) (D : List Nat) (hD : waits md ops i D = true) (hsel : ∀ (j : Nat) (o : Oper) cs b, ops[j]? = some o → o.op ≠ .select cs b)
  (hQ : ∀ c a w, Q (.panic c) (a.put oi.dst v) w → Q (.panic c) a w) (hSi : ∀ L w, S (L.setIfInBounds i true) w → S L w) :
  ∀ (fuel : Nat) (listed : Array Bool) (a : Act) (w : World),
   (∀ j oj, ops[j]? = some oj → j ≠ i → listed.getD j true = false → (∀ e ∈ oj.after, Region.binds md e = true → e.on ≠ i) → oi.apart ops oj = true) →
   i ∈ Region.ready md ops listed → (∀ d ∈ D, listed.getD d true = false) → YieldsIf P ops (fun w => ∃ L : Array Bool, (∀ d ∈ D, L.getD d true = false) ∧ S L w) oi v a → S (listed.setIfInBounds i true) w →
   anyL P md ops Q S fuel (listed.setIfInBounds i true) (a.put oi.dst v) w → anyL P md ops Q S (fuel + 1) listed a w := by
 have hDi : ∀ d ∈ D, d ≠ i := fun d hd => by
  have k := List.all_eq_true.1 hD d hd
  simp only [Bool.and_eq_true, bne_iff_ne] at k
  exact k.1
 have un : ∀ listed : Array Bool, (∀ d ∈ D, listed.getD d true = false) → ∀ d ∈ D, (listed.setIfInBounds i true).getD d true = false := fun l h d hd => by rw [getD_unset (hDi d hd)]; exact h d hd
 intro fuel
 induction fuel with
 | zero =>
  intro listed a w _ hr hl hy hS H
  refine ⟨fun h => (by rw [h] at hr; cases hr), fun j hj => ?_⟩
  by_cases hji : j = i
  ·subst hji; exact hy.wpOp hi ⟨_, un listed hl, hS⟩ ⟨hS, H⟩
  ·have := ready_mono hj hji
   rw [H.1] at this
   cases this
 | succ fuel ih =>
  intro listed a w hfree hr hl hy hS H
  refine ⟨fun h => (by rw [h] at hr; cases hr), fun j hj => ?_⟩
  by_cases hji : j = i
  ·subst hji; exact hy.wpOp hi ⟨_, un listed hl, hS⟩ ⟨hS, H⟩
  ·have h1 := H.2 j (ready_mono hj hji)
   obtain ⟨hjun, oj, hoj, hall⟩ := mem_ready.1 hj
   have hno : ∀ k : Nat, listed.getD k true = false → listed.getD k false = false := fun k h => by
    rcases Nat.lt_or_ge k listed.size with h' | h'
    ·simp [Array.getD, h'] at h ⊢; exact h
    ·simp [Array.getD, Nat.not_lt.2 h'] at h
   have hnot : ∀ e ∈ oj.after, Region.binds md e = true → e.on ≠ i := fun e he hb heq => by
    have h1 := hall e he hb
    rw [heq, hno i (mem_ready.1 hr).1] at h1
    cases h1
   have hjD : j ∉ D := fun hjd => by
    have k := List.all_eq_true.1 hD j hjd
    rw [hoj] at k
    simp only [Bool.and_eq_true, bne_iff_ne, Option.any_some] at k
    obtain ⟨e, he, hb⟩ := Array.any_eq_true'.1 k.2
    simp only [Bool.and_eq_true, Bool.or_eq_true, beq_iff_eq, List.contains_iff_mem] at hb
    rcases hb.2 with q | q
    ·exact hnot e he hb.1 q
    ·have h1 := hall e he hb.1
     rw [hno _ (hl _ q)] at h1
     cases h1
   have h2 := wpOp_putIf hoj (hfree j oj hoj hji hjun hnot) (fun cs b => hsel i oi cs b hi) (fun cs b => hsel j oj cs b hoj) hQ hy h1
   have hfree' : ∀ k ok, ops[k]? = some ok → k ≠ i → (listed.setIfInBounds j true).getD k true = false →
     (∀ e ∈ ok.after, Region.binds md e = true → e.on ≠ i) → oi.apart ops ok = true := fun k ok hk hki hun hno => by
    refine hfree k ok hk hki ?_ hno
    by_cases hjk : j = k
    ·subst hjk; exact hjun
    ·rw [getD_set_ne true hjk] at hun; exact hun
   refine wpOp_mono (fun a' w' h3 => ?_) h2
   have h4 := h3.2.1
   rw [Array.setIfInBounds_comm _ _ (Ne.symm hji)] at h4
   refine ⟨hSi _ _ h4, ih (listed.setIfInBounds j true) a' w' hfree' (ready_mono hr (Ne.symm hji)) (fun d hd => ?_) h3.1 h4 ?_⟩
   ·rw [getD_unset (show d ≠ j from fun e => hjD (by rw [← e]; exact hd))]; exact hl d hd
   ·rw [Array.setIfInBounds_comm _ _ hji]
    exact h3.2.2
theorem tkL {fuel : Nat} {listed l' : Array Bool} {a a' : Act} {w : World} {oi : Oper} {v : Value} (i : Nat) (D : List Nat) (hSi : ∀ L w, S (L.setIfInBounds i true) w → S L w) (hS : S (listed.setIfInBounds i true) w)
  (h : anyL P md ops Q S fuel l' a' w) (hi : ops[i]? = some oi := by simp only [List.getElem?_toArray, List.getElem?_cons_succ, List.getElem?_cons_zero]; exact rfl)
  (hs : Region.noSelect ops = true := by kernel_rfl) (hf : Region.free md ops listed i = true := by kernel_rfl) (hr : (Region.ready md ops listed).contains i = true := by kernel_rfl)
  (hD : waits md ops i D = true := by kernel_rfl) (hl : (D.all fun d => !listed.getD d true) = true := by kernel_rfl)
  (hy : YieldsIf P ops (fun w => ∃ L : Array Bool, (∀ d ∈ D, L.getD d true = false) ∧ S L w) oi v a := by
   first
   | exact Or.inr ⟨by rfl, rfl⟩
   |(refine Or.inl ⟨by rfl, ?_⟩; rintro W ⟨L, hL, hSw⟩; (try have kb := KL.out W L hSw hL); go_simp; try with_reducible rfl))
  (hQ : ∀ c a w, Q (.panic c) (a.put oi.dst v) w → Q (.panic c) a w := by exact fun _ _ _ h => h)
  (hl' : listed.setIfInBounds i true = l' := by (try simp only [List.setIfInBounds_toArray, List.set_cons_zero, List.set_cons_succ]); exact rfl)
  (ha : a.put oi.dst v = a' := by (try simp only [Act.put, List.setIfInBounds_toArray, List.set_cons_zero, List.set_cons_succ]); exact rfl) :
  anyL P md ops Q S (fuel + 1) listed a w := by
 subst hl' ha
 exact anyL_first hi D hD (Region.noSelect_spec hs) hQ hSi fuel listed a w (Region.free_spec hi hf) (by simpa using hr) (fun d hd => by simpa using List.all_eq_true.1 hl d hd) hy hS h
def AllL (P : Program) (md : Region.Mode) (ops : Array Oper) (Q : Exit → Act → World → Prop) (S : Array Bool → World → Prop) (fuel : Nat) (listed : Array Bool) (a : Act) (w : World) (rs : List Nat) : Prop :=
 ∀ i ∈ rs, wpOp P ops Q i (fun a' w' => S (listed.setIfInBounds i true) w' ∧ anyL P md ops Q S fuel (listed.setIfInBounds i true) a' w') a w
theorem AllL.nil {fuel : Nat} {listed : Array Bool} {a : Act} {w : World} : AllL P md ops Q S fuel listed a w [] := fun _ h => by cases h
theorem rdL {fuel : Nat} {listed : Array Bool} {a : Act} {w : World} {i : Nat} {o : Oper} {rs : List Nat}
  (h : ∀ K' : Act → World → Prop, Shut (∀ a w, S (listed.setIfInBounds i true) w → anyL P md ops Q S fuel (listed.setIfInBounds i true) a w → K' a w) → if Region.wanted o (yielded ops a.tmps) = true then Oper.wp P o a w K' Q else K' (a.put o.dst undef) w)
  (hs : AllL P md ops Q S fuel listed a w rs) (ho : ops[i]? = some o := by simp only [List.getElem?_toArray, List.getElem?_cons_succ, List.getElem?_cons_zero]; exact rfl) : AllL P md ops Q S fuel listed a w (i :: rs) := fun j hj => by
 rcases List.mem_cons.1 hj with rfl | hj
 ·exact wpOp_step ho (fun K' hK => h K' (fun a w hS hW => hK a w ⟨hS, hW⟩))
 ·exact hs j hj
theorem anyL_ready {rs : List Nat} {fuel : Nat} {listed : Array Bool} {a : Act} {w : World} (hr : Region.ready md ops listed = rs) (hne : rs ≠ []) (h : AllL P md ops Q S fuel listed a w rs) : anyL P md ops Q S (fuel + 1) listed a w :=
 ⟨fun h0 => absurd (hr ▸ h0) hne, hr ▸ h⟩
theorem anyL_done {listed : Array Bool} {a : Act} {w : World} (hr : Region.ready md ops listed = []) (h : Q .normal a w) : ∀ fuel, anyL P md ops Q S fuel listed a w
 | 0 => ⟨hr, h⟩
 | _ + 1 => ⟨fun _ => h, by rw [hr]; simp⟩
theorem wp_region_L {id : Nat} {a : Act} {w : World} (S : Array Bool → World → Prop) (hm : P.follows .mixedOrders = true) (h : anyL P .any ops Q S ops.size (Array.replicate ops.size false) a w.drew) : (Code.region id ops true).wp P Q a w :=
 wp_region_any hm (any_of_L _ _ _ _ h)
end
/-- What may be turned from a number on: as long as operation s has not come up, C holds; as long as t has not, E does. -/
def Till (s : Nat) (C : World → Prop) (t : Nat) (E : World → Prop) (L : Array Bool) (w : World) : Prop := (L.getD s true = false → C w) ∧ (L.getD t true = false → E w)
theorem Till.unset {s t i : Nat} {C E : World → Prop} (h1 : s ≠ i) (h2 : t ≠ i) (L : Array Bool) (w : World) (h : Till s C t E (L.setIfInBounds i true) w) : Till s C t E L w :=
 ⟨fun e => h.1 ((getD_unset h1 true).trans e), fun e => h.2 ((getD_unset h2 true).trans e)⟩
theorem Till.all {s t : Nat} {C E : World → Prop} {L : Array Bool} {w : World} (h1 : C w) (h2 : E w) : Till s C t E L w := ⟨fun _ => h1, fun _ => h2⟩
end Go.Proofs.Yteakhlnnepjhpaa
