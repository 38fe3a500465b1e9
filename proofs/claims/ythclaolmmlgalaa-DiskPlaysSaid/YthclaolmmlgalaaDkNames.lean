/- Package disk's Names on the relation: the map's keys, sorted, are the names of the document's disk. -/
import Derived.Test.YthclaolmmlgalaaDkApp
import Derived.Test.YthclaolmmlgalaaIter
namespace Go.Proofs.Ythclaolmmlgalaa
open Go.RowKit Go.Maps Go.Sort Go.Shelf
set_option linter.unusedVariables false

theorem names_sorted {l : List DiskM.F} (h : DiskM.Rises l) : (l.map DiskM.F.name).mergeSort leB = l.map DiskM.F.name := by
  have tr : ∀ a b c : List UInt8, leB a b = true → leB b c = true → leB a c = true := fun a b c h1 h2 => by simp only [leB, decide_eq_true_eq] at *; exact List.le_trans h1 h2
  have to : ∀ a b : List UInt8, (leB a b || leB b a) = true := fun a b => by simp only [leB, Bool.or_eq_true, decide_eq_true_eq]; exact List.le_total a b
  refine List.Perm.eq_of_pairwise (le := fun a b => leB a b = true) (fun a b _ _ h1 h2 => ?_) (List.pairwise_mergeSort tr to _) (List.pairwise_map.2 (h.imp fun k => ?_)) (List.mergeSort_perm _ leB)
  · simp only [leB, decide_eq_true_eq] at h1 h2
    exact List.le_antisymm h1 h2
  · simp only [leB, decide_eq_true_eq]
    exact List.le_of_lt ((DiskM.lt_iff _ _).1 k)
theorem name_mem {l : List DiskM.F} (h : DiskM.Rises l) (s : List UInt8) : s ∈ l.map DiskM.F.name ↔ (DiskM.find l s).isSome = true := by
  rw [List.mem_map]
  constructor
  · rintro ⟨f, hf, rfl⟩
    rw [DiskM.find_mem_rises h hf]
    rfl
  · intro k
    obtain ⟨f, hf⟩ := Option.isSome_iff_exists.1 k
    exact ⟨f, DiskM.find_mem hf, DiskM.find_name hf⟩
theorem keys_perm {w : World} {b n : Nat} {D : DataW Value} {l : List DiskM.F} (hown : w.ownsMap Try.prog 9 heldR b n D) (hr : DiskM.Rises l) (hk : ∀ s, has D (.string s) = (DiskM.find l s).isSome) : (l.map DiskM.F.name).Perm (strKeys D) := by
  obtain ⟨es, hD, hpw, _⟩ := hown.entries skey
  obtain ⟨es', hD', hko⟩ := hown.keysOf
  obtain rfl : es = es' := by rw [hD] at hD'; simpa using hD'
  subst hD
  exact perm_strKeys hpw (fun p hp => by obtain ⟨v, hv⟩ := hko p hp; obtain ⟨x, _, hx, _⟩ := Maps.keyOf_str Try.underlying9 hv; exact ⟨x, hx⟩) (DiskM.rises_nodup hr) (fun x => by rw [name_mem hr, hk x])
theorem texts_of_row {w : World} {base n : Nat} {v : Value} {l : List (List UInt8)} (h : w.ownsRow base 9 1 v n (l.map encStr)) : IsTexts w v l := by
  have hn : n = l.length := by have := h.1; simp at this; omega
  subst hn
  rcases h.2 with ⟨rfl, h0⟩ | ⟨g, cap, cur, rfl, hg, hb, hc, _, hs, ht⟩
  · have e : l = [] := List.eq_nil_of_length_eq_zero h0
    subst e
    exact ⟨none, 0, rfl, fun _ => rfl, Nat.le_refl _, fun i hi => absurd hi (by simp)⟩
  · refine ⟨_, cap, rfl, (fun e => nomatch e), hc, fun i hi => ⟨_, rfl, (Array.getElem?_eq_some_iff.1 hb).1, ?_⟩⟩
    exact h.cells (g := g) rfl i (encStr l[i]) (by rw [List.getElem?_map, List.getElem?_eq_getElem hi]; rfl)
set_option maxRecDepth 20000 in
set_option maxHeartbeats 2000000 in
theorem names_some (w : World) (g b : Nat) (D : DataW Value) (hc : w.cell? ⟨g, 0, none⟩ = some (.map (some b))) (hown : w.ownsMap Try.prog 9 heldR b (size D) D) (hmax : size D ≤ 1000) :
    Calls Try.prog 25 #[.pointer (some ⟨g, 0, none⟩)] w fun e w' => (∃ (v : Value) (ss : List (List UInt8)), e = .returned v ∧ ss.Perm (strKeys D) ∧ IsTexts w' v (ss.mergeSort leB) ∧ (∀ p n c, v = .slice (some p) n c → w.heap.size ≤ p.block)) ∧ Below w.heap.size w w' := by
  refine (callsIn_wide (n := 6)).1 ?_
  have hfK : Fence.wide.fn 44 := trivial
  have hfS : Fence.wide.fn 43 := trivial
  have hpn := fun W => ptr_nil W g
  refine callsIn_of_wp Try.func25 rfl trivial ?_ rfl
  simp only [Try.ntmps25, List.size_toArray, List.length_cons, List.length_nil, Nat.reduceAdd, Nat.reduceSub, Array.replicate_succ, Array.replicate_zero, List.push_toArray, List.append_toArray, List.nil_append, List.cons_append]
  gi_wp2_with (first
    | (gi_at_call 44; refine (Try.maps_Keys_44 _ _).mono ?_; rintro e w' ⟨rfl, rfl⟩)
    | (gi_at_call 43; refine (Try.slices_Sorted_keys_43_44 b _ D _ w hown (by unfold maxLen; omega) (by omega)).mono ?_; rintro e w' ⟨v, ss, rfl, hS, hrow, hnil, hb⟩))
  go_ret
  exact ⟨⟨v, ss, rfl, hS, texts_of_row hrow, fun p n c e => by have := (row_new hrow (k := p.block) (by rw [e]; rfl)).1; simp at this; omega⟩, ((Below.refl _ w).alloc (Nat.le_refl _) _).trans (hb.mono (by simp))⟩
set_option maxRecDepth 20000 in
set_option maxHeartbeats 2000000 in
theorem names_none (w : World) (g : Nat) (hc : w.cell? ⟨g, 0, none⟩ = some (.map none)) :
    Calls Try.prog 25 #[.pointer (some ⟨g, 0, none⟩)] w fun e w' => (∃ v, e = .returned v ∧ IsTexts w' v [] ∧ (∀ p n c, v = .slice (some p) n c → w.heap.size ≤ p.block)) ∧ Below w.heap.size w w' := by
  refine (callsIn_wide (n := 6)).1 ?_
  have hfK : Fence.wide.fn 44 := trivial
  have hfS : Fence.wide.fn 43 := trivial
  have hpn := fun W => ptr_nil W g
  refine callsIn_of_wp Try.func25 rfl trivial ?_ rfl
  simp only [Try.ntmps25, List.size_toArray, List.length_cons, List.length_nil, Nat.reduceAdd, Nat.reduceSub, Array.replicate_succ, Array.replicate_zero, List.push_toArray, List.append_toArray, List.nil_append, List.cons_append]
  gi_wp2_with (first
    | (gi_at_call 44; refine (Try.maps_Keys_44 _ _).mono ?_; rintro e w' ⟨rfl, rfl⟩)
    | (gi_at_call 43; refine (Try.slices_Sorted_keys_nil_43_44 w).mono ?_; rintro e w' ⟨v, ss, rfl, hS, hrow, hnil, hb⟩))
  go_ret
  subst hS
  exact ⟨⟨v, rfl, texts_of_row (by simpa using hrow), fun p n c e => by have := (row_new hrow (k := p.block) (by rw [e]; rfl)).1; simp at this; omega⟩, ((Below.refl _ w).alloc (Nat.le_refl _) _).trans (hb.mono (by simp))⟩
theorem dnames {w : World} {F : Nat → Prop} {E : List UInt8 → Prop} {g : Nat} {mo : Option Nat} {D : DataW Value} {M : DiskM.D} (h : Dk w F E g mo D M) :
    Calls Try.prog 25 #[.pointer (some ⟨g, 0, none⟩)] w fun e w' => (∃ v, e = .returned v ∧ IsTexts w' v (DiskM.names M) ∧ (∀ p n c, v = .slice (some p) n c → w.heap.size ≤ p.block)) ∧ Below w.heap.size w w' := by
  cases mo with
  | none =>
    have e : DiskM.names M = [] := by
      have hD : D = .map [] := h.bare.map
      have hc := h.cnt
      rw [hD] at hc
      exact List.eq_nil_of_length_eq_zero (by rw [DiskM.names, List.length_map]; exact hc.symm)
    rw [e]
    exact names_none w g h.bare.c0
  | some b =>
    refine (names_some w g b D h.bare.c0 h.bare.map (by have := h.cnt; have := h.few; omega)).mono ?_
    rintro e w' ⟨⟨v, ss, he, hp, ht, hnew⟩, hb⟩
    have k := keys_perm h.bare.map h.rises h.keys
    rw [mergeSort_of_perm (hp.trans k.symm), names_sorted h.rises] at ht
    exact ⟨⟨v, he, ht, hnew⟩, hb⟩
theorem dk_names {w : World} {F : Nat → Prop} {p : Addr} {M : DiskM.D} (h : DiskR w F p M) :
    Calls Try.prog 25 #[.pointer (some p)] w fun e w' => (∃ v, e = .returned v ∧ IsTexts w' v (DiskM.names M)) ∧ Below w.heap.size w w' := by
  obtain ⟨g, mo, D, rfl, hd⟩ := h
  exact (dnames hd).mono fun e w' ⟨⟨v, he, ht, _⟩, hb⟩ => ⟨⟨v, he, ht⟩, hb⟩
end Go.Proofs.Ythclaolmmlgalaa
