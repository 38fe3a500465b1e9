/- Package disk's calls on the relation: those that look at a file or turn one. -/
import Derived.Test.YthclaolmmlgalaaDkRel
namespace Go.Proofs.Ythclaolmmlgalaa
open Go.RowKit Go.Maps
set_option linter.unusedVariables false

/-- No file is exempt. -/
def NoE : List UInt8 → Prop := fun _ => False
def DiskR (w : World) (F : Nat → Prop) (p : Addr) (M : DiskM.D) : Prop := ∃ g mo D, p = ⟨g, 0, none⟩ ∧ Dk w F NoE g mo D M
theorem dremove {w : World} {F : Nat → Prop} {E : List UInt8 → Prop} {g : Nat} {mo : Option Nat} {D : DataW Value} {M : DiskM.D} (h : Dk w F E g mo D M) (s : ByteArray) (hs : s.size ≤ maxLen) (x : DiskM.F) (hx : DiskM.find M.l s.data.toList = some x) :
    Calls Try.prog 41 #[.pointer (some ⟨g, 0, none⟩), .string s] w fun e w' => e = .returned (.tuple #[]) ∧
      Dk w' F E g mo (D.del (.string s.data.toList)) { M with l := DiskM.out M.l s.data.toList } ∧ Only (fun k => k = g ∨ mo = some k) w w' := by
  obtain ⟨A', c', hf, _⟩ := h.files _ _ hx
  have hh : has D (.string s.data.toList) = true := by rw [h.keys, hx]; rfl
  have hsmall := h.small
  have hlen : DiskM.len M.l s.data.toList = x.b.length := by unfold DiskM.len; rw [hx]
  have hle := DiskM.len_le M.l s.data.toList
  obtain ⟨hup, hln⟩ := DiskM.used_out (l := M.l) s.data.toList h.rises
  cases mo with
  | none =>
    have : D = .map [] := h.bare.map
    subst this
    simp [has] at hh
  | some b =>
    refine (remove_some w g b D _ _ _ h.bare s hs A' x.b.length c' _ hf (by omega) (by omega)).mono ?_
    rintro e w' ⟨he, hB, ho⟩
    have same : ∀ k, k < w.heap.size → k ≠ g → some b ≠ some k → w'.heap[k]? = w.heap[k]? := fun k h1 h2 h3 => ho.block k h1 fun x => by rcases x with x | x; exact h2 x; exact h3 (by rw [x])
    have e1 : (DiskM.used M.l : Int) - (x.b.length : Int) = (DiskM.used (DiskM.out M.l s.data.toList) : Int) := by omega
    rw [e1] at hB
    have hT := h.bare.map.tidy
    have blk : ∀ t k, blockOf (fileAt (D.del (.string s.data.toList)) t) = some k → blockOf (fileAt D t) = some k := fun t k hk => by
      rw [fileAt_del] at hk
      split at hk
      · cases hk
      · exact hk
    refine ⟨he, ⟨hB, h.Fg, h.Fm, fun t => ?_, fun t y hy => ?_, fun t k hk => ?_, fun t t' k hne hk => fun z => h.two t t' k hne (blk t k hk) (blk t' k z), ?_, DiskM.rises_out _ h.rises, ?_, fun f hf => h.ok f (DiskM.mem_out hf), ?_, h.room⟩, ho.wider fun k hk => hk.imp id fun z => by rw [z]⟩
    · show _ = (DiskM.find (DiskM.out M.l _) t).isSome
      rw [has_del, DiskM.find_out]
      by_cases q : s.data.toList = t
      · rw [if_pos q, if_pos q.symm]; rfl
      · rw [if_neg q, if_neg (Ne.symm q)]; exact h.keys t
    · have hy' : (if t = s.data.toList then none else DiskM.find M.l t) = some y := by rw [← hy]; exact (DiskM.find_out M.l s.data.toList t).symm
      split at hy'
      · cases hy'
      · rename_i q
        obtain ⟨A2, c2, h1, h2⟩ := h.files t y hy'
        refine ⟨A2, c2, by rw [fileAt_del, if_neg (Ne.symm q)]; exact h1, fun ne => row_same (h2 ne) fun k hk => ?_⟩
        have := h.mine t k (by rw [h1]; exact hk)
        exact same k this.2.2.2 this.2.1 this.2.2.1
    · have := h.mine t k (blk t k hk)
      exact ⟨this.1, this.2.1, this.2.2.1, Nat.lt_of_lt_of_le this.2.2.2 ho.size⟩
    · have := size_del (k := .string s.data.toList) hT
      rw [hh, if_pos rfl, h.cnt] at this
      rw [hx] at hln
      simp at hln
      show _ = (DiskM.out M.l s.data.toList).length
      omega
    · show (DiskM.out M.l s.data.toList).length ≤ 1000
      have := h.few
      omega
    · show DiskM.used (DiskM.out M.l s.data.toList) ≤ 16777216
      omega
/-- What a call on the disk leaves, told in the law's words. -/
theorem does_end {w w0 w' : World} {F : Nat → Prop} {g : Nat} {mo : Option Nat} {D : DataW Value} {M : DiskM.D} {G : Nat → Prop} (hG : ∀ k, G k → F k ∨ w.heap.size ≤ k) (h : Dk w' G NoE g mo D M) (ho : Only G w0 w') (hb : Below w.heap.size w w0) :
    (∃ F', DiskR w' F' ⟨g, 0, none⟩ M ∧ ∀ k, F' k → F k ∨ w.heap.size ≤ k) ∧ Only F w w' :=
  ⟨⟨G, ⟨g, mo, D, rfl, h⟩, hG⟩, (Only.of_below (F := F) hb).trans ho hG⟩
theorem disk_keep {w w' : World} {F : Nat → Prop} {p : Addr} {M : DiskM.D} (h : DiskR w F p M) (hb : Below w.heap.size w w') : DiskR w' F p M := by
  obtain ⟨g, mo, D, hp, hd⟩ := h
  exact ⟨g, mo, D, hp, hd.below hb⟩
/-- find, in the disk's own words. -/
theorem dfind {w : World} {F : Nat → Prop} {E : List UInt8 → Prop} {g : Nat} {mo : Option Nat} {D : DataW Value} {M : DiskM.D} (h : Dk w F E g mo D M) (s : ByteArray) (hs : s.size ≤ maxLen) :
    Calls Try.prog 34 #[.pointer (some ⟨g, 0, none⟩), .string s] w fun e w' => (∃ A n c y, e = .returned (.tuple #[.agg #[.slice A n c, .int .i64 y], .int .i64 (match DiskM.have_ M s.data.toList with | .error r => r | .ok _ => 0)]) ∧
      (match DiskM.have_ M s.data.toList with | .error r => r ≠ 0 ∧ A = none ∧ n = 0 ∧ c = 0 | .ok x => DiskM.find M.l s.data.toList = some x ∧ fileAt D s.data.toList = .agg #[.slice A n c, .int .i64 y] ∧ n = x.b.length ∧ y = x.sync)) ∧ Below w.heap.size w w' := by
  have hB := h.bare
  unfold DiskM.have_
  cases hd : M.down
  · rw [hd] at hB
    simp only [Bool.false_eq_true, if_false]
    cases hx : DiskM.find M.l s.data.toList with
    | none =>
      refine (find_no w g mo D _ _ hB s hs (by rw [h.keys, hx]; rfl)).mono ?_
      rintro e w' ⟨he, hb⟩
      exact ⟨⟨none, 0, 0, 0, he, by decide, rfl, rfl, rfl⟩, hb⟩
    | some x =>
      obtain ⟨A, c, hf, _⟩ := h.files _ _ hx
      refine (find_yes w g mo D _ _ hB s hs (by rw [h.keys, hx]; rfl) A _ c _ hf).mono ?_
      rintro e w' ⟨he, hb⟩
      exact ⟨⟨A, _, c, _, he, rfl, hf, rfl, rfl⟩, hb⟩
  · rw [hd] at hB
    simp only [if_true]
    refine (find_down w g mo D _ _ hB s).mono ?_
    rintro e w' ⟨he, hb⟩
    exact ⟨⟨none, 0, 0, 0, he, by decide, rfl, rfl, rfl⟩, hb⟩
end Go.Proofs.Ythclaolmmlgalaa
