/- slices.Delete of one element, at a row of texts. -/
import Derived.Test.YteghokakjonblaaChHeap
import Derived.Deep.RegionLaw
import Derived.Lib.SliceRun
namespace Go.Proofs.Yteghokakjonblaa.delS
open Go.RowKit Go.Lib Go.Proofs.Yteghokakjonblaa
set_option linter.unusedVariables false
theorem infoE : (Try.prog.info? 9).map (fun i => (i.zero, i.size, i.bytes)) = some (some (.string ⟨#[]⟩), 1, 16) := by kernel_rfl
section
variable {w : World} {b off cap : Nat} {l : List Value}
set_option maxHeartbeats 4000000 in
set_option maxRecDepth 1000000 in
theorem walk (h : Sl w b off cap l) (n i j : Nat) (hn : l.length = n) (hi : i < n) (hj : j = i + 1) :
    Calls Try.prog 31 #[.slice (some ⟨b, off, none⟩) n cap, .int .i64 i, .int .i64 j] w fun e w' =>
      e = .returned (.slice (some ⟨b, off, none⟩) (i + (n - j)) cap) ∧ w' = (w.drew.setCells b (off + i * 1) (l.drop j)).setCells b (off + (i + (n - j))) (List.replicate (n - (i + (n - j))) (.string ⟨#[]⟩)) := by
  obtain ⟨i0, hi0, hz0, hz1, hz2⟩ := info_parts infoE
  have big := h.big
  have hlt : i < j := by omega
  have hjn : j ≤ n := by omega
  have hcap : n ≤ cap := by have := h.len; omega
  have hm := h.big
  obtain ⟨news, hnews⟩ : ∃ news, news = l.drop j := ⟨_, rfl⟩
  have hlen : news.length = n - j := by rw [hnews, List.length_drop, hn]
  obtain ⟨A, hA, hsrc⟩ : ∃ A : Addr, (if cap = j then some (⟨b, off, none⟩ : Addr) else some ⟨b, off + j, none⟩) = some A ∧ Hid (∀ t u, news[t]? = some u → w.drew.cell? (A.add t) = some u) := by
    by_cases k : cap = j
    · refine ⟨⟨b, off, none⟩, by simp [k], fun t u hu => ?_⟩
      have h0 : news.length = 0 := by rw [hlen]; omega
      rw [List.length_eq_zero_iff.1 h0] at hu
      simp at hu
    · refine ⟨⟨b, off + j, none⟩, by simp [k], fun t u hu => ?_⟩
      rw [hnews, List.getElem?_drop] at hu
      rw [Addr.add_lit, Nat.add_assoc]
      exact h.get (j + t) u hu
  have s1 : Hid (news.length = (n - j) * 1) := by rw [Nat.mul_one]; exact hlen
  have s2 : Hid (∀ u ∈ news, u.oneCell' = true) := fun u hu => by
    rw [hnews] at hu
    exact h.one u (List.mem_of_mem_drop hu)
  have s3 : Hid (∀ t, t < news.length → (w.drew.cell? ⟨b, off + i * 1 + t, none⟩).isSome = true ∧ w.drew.frozen? ⟨b, off + i * 1 + t, none⟩ = false) := by
    intro t ht
    rw [hlen] at ht
    rw [Nat.mul_one, Nat.add_assoc]
    exact ⟨h.is _ (by omega), h.free _⟩
  obtain ⟨W1, hW1⟩ : ∃ W1, W1 = w.drew.setCells b (off + i * 1) news := ⟨_, rfl⟩
  have is1 : ∀ t, t < cap → (W1.cell? ⟨b, off + t, none⟩).isSome = true := fun t ht => by
    rw [hW1, Nat.mul_one]
    exact isSome_setCells b _ _ _ (fun k hk => by rw [hlen] at hk; rw [Nat.add_assoc]; exact h.is _ (by omega)) _ (h.is _ ht)
  have free1 : ∀ t, W1.frozen? ⟨b, t, none⟩ = false := fun t => by rw [hW1, World.frozen?_setCells]; exact h.free t
  have hcl : ∀ ty, (Builtin.clear_ #[22] ty #[.slice (some ⟨b, off + (i + (n - j)), none⟩) (n - (i + (n - j))) (cap - (i + (n - j)))]).run Try.prog W1 = .ok (.tuple #[]) (W1.setCells b (off + (i + (n - j))) (List.replicate (n - (i + (n - j))) (.string ⟨#[]⟩))) :=
    fun ty => Lib.run_clear_slice W1 _ _ ty _ Try.underlying22 Try.zeroValue9 rfl rfl b (off + (i + (n - j))) _ _ (by omega) (fun t ht => by rw [Nat.add_assoc]; exact is1 _ (by omega)) (fun t ht => free1 _)
  have HW : Hid (W1 = w.drew.setCells b (off + i * 1) news) := hW1
  have hic : i ≤ cap := by omega
  have hjc : j ≤ cap := by omega
  have hij : ¬ ((i : Int) = (j : Int)) := by omega
  have HN := Lib.hid hnews
  have mixed : Try.prog.follows .mixedOrders = true := by kernel_rfl
  clear hW1 hnews hlen h hn is1 free1 hj
  go_enter Try.func31, Try.ntmps31
  go_wp2_with fail
  go_region_law_o (refine step_append_room rfl (.tmp 22) (.tmp 25) 22 rfl 9 i0 1 Try.underlying22 hi0 hz1 b off i cap (by simp [Act.eval, Act.put]) A (n - j) (cap - j) news (by simp [Act.eval, Act.put]) s1.out hsrc.out s2.out (by omega) s3.out ?_; rw [← HW.out])
  go_wp2
  go_ret
  exact ⟨rfl, by rw [HW.out, HN.out]⟩
theorem any (h : Sl w b off cap l) (i : Nat) (hi : i < l.length) :
    Calls Try.prog 31 #[.slice (some ⟨b, off, none⟩) l.length cap, .int .i64 i, .int .i64 ((i : Int) + 1)] w fun e w' =>
      e = .returned (.slice (some ⟨b, off, none⟩) (l.length - 1) cap) ∧ Sl w' b off cap (l.eraseIdx i) ∧ Turn (Rng b off cap) w w' := by
  have hl := h.len
  have k := walk h l.length i (i + 1) rfl hi rfl
  rw [show ((i + 1 : Nat) : Int) = (i : Int) + 1 by omega] at k
  refine k.mono ?_
  rintro e w' ⟨rfl, rfl⟩
  have e1 : i + (l.length - (i + 1)) = l.length - 1 := by omega
  have e2 : l.length - (l.length - 1) = 1 := by omega
  rw [e1, e2, Nat.mul_one]
  have s1 := h.drew.lay i (l.drop (i + 1)) (l.eraseIdx i) (fun u hu => h.one u (List.mem_of_mem_drop hu)) (by rw [List.length_drop]; omega) (by rw [List.length_eraseIdx_of_lt hi]; omega) (fun t u e => by
    rw [List.getElem?_eraseIdx] at e
    split at e
    · rename_i q
      exact .inr ⟨.inl q, e⟩
    · rename_i q
      refine .inl ⟨by omega, ?_⟩
      rw [List.getElem?_drop, show i + 1 + (t - i) = t + 1 by omega]
      exact e)
  have s2 := s1.lay (l.length - 1) [(.string ⟨#[]⟩)] (l.eraseIdx i) (fun u hu => by simp at hu; subst hu; rfl) (by show l.length - 1 + 1 ≤ cap; omega) s1.len (fun t u e => by
    have := (List.getElem?_eq_some_iff.1 e).1
    rw [List.length_eraseIdx_of_lt hi] at this
    exact .inr ⟨.inl this, e⟩)
  refine ⟨rfl, s2, ?_⟩
  have t0 : Turn (Rng b off cap) w w.drew := (Turn.refl _ w).drew
  have t1 := Turn.lay b off cap i (l.drop (i + 1)) w.drew (by rw [List.length_drop]; omega)
  have t2 := Turn.lay b off cap (l.length - 1) [(.string ⟨#[]⟩)] (w.drew.setCells b (off + i) (l.drop (i + 1))) (by show l.length - 1 + 1 ≤ cap; omega)
  exact (t0.trans t1 fun a e => .inl e).trans t2 fun a e => .inl e
end
end Go.Proofs.Yteghokakjonblaa.delS
