/- Plain: steps of d round a ring of k places come to each place once, if d and k have no divisor in common. -/
import Derived.Test.YtnknekliaejbaaaRows
namespace Go.Proofs.Ytnknekliaejbaaa.Ring
theorem apart {k d s t : Nat} (h : Nat.gcd d k = 1) (hs : s < t) (ht : t < k) : (s * d) % k ≠ (t * d) % k := fun e => by
  have h1 : k ∣ t * d - s * d := ⟨t * d / k - s * d / k, by
    have a := Nat.div_add_mod (t * d) k
    have b := Nat.div_add_mod (s * d) k
    rw [Nat.mul_sub]
    omega⟩
  rw [← Nat.sub_mul] at h1
  have h2 : k ∣ t - s := Nat.Coprime.dvd_of_dvd_mul_right (by rw [Nat.coprime_iff_gcd_eq_one, Nat.gcd_comm]; exact h) h1
  have := Nat.le_of_dvd (by omega) h2
  omega
theorem few {l l' : List Nat} (hl : l.Nodup) (h : ∀ x ∈ l, x ∈ l') : l.length ≤ l'.length := by
  induction l generalizing l' with
  | nil => simp
  | cons a r ih =>
    obtain ⟨h1, h2⟩ := List.nodup_cons.1 hl
    have ha : a ∈ l' := h a List.mem_cons_self
    have := ih h2 (l' := l'.erase a) fun x hx => (List.mem_erase_of_ne (fun e => h1 (by rw [← e]; exact hx))).2 (h x (List.mem_cons_of_mem _ hx))
    rw [List.length_erase_of_mem ha] at this
    have : 0 < l'.length := List.length_pos_of_mem ha
    simp only [List.length_cons]; omega
theorem all {k d r : Nat} (h : Nat.gcd d k = 1) (hr : r < k) : ∃ t, t < k ∧ (t * d) % k = r := by
  by_cases c : r ∈ (List.range k).map fun t => (t * d) % k
  · obtain ⟨t, ht, e⟩ := List.mem_map.1 c
    exact ⟨t, List.mem_range.1 ht, e⟩
  · exfalso
    have nd : ((List.range k).map fun t => (t * d) % k).Nodup := by
      rw [List.Nodup, List.pairwise_map]
      refine List.Pairwise.imp_of_mem ?_ (List.pairwise_lt_range)
      intro a b ha hb hab
      exact apart h hab (List.mem_range.1 hb)
    have := few (l := r :: (List.range k).map fun t => (t * d) % k) (l' := List.range k) (List.nodup_cons.2 ⟨c, nd⟩) fun x hx => by
      rcases List.mem_cons.1 hx with rfl | hx
      · exact List.mem_range.2 hr
      · obtain ⟨t, _, rfl⟩ := List.mem_map.1 hx
        exact List.mem_range.2 (Nat.mod_lt _ (by omega))
    simp at this
    omega
theorem next {k d i : Nat} : ((i * d) % k + d) % k = ((i + 1) * d) % k := by
  rw [Nat.mod_add_mod, Nat.succ_mul]
end Go.Proofs.Ytnknekliaejbaaa.Ring
