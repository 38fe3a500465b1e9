/- The document's own answer: the token that stands at a place, plain. -/
import Derived.Test.YtikbgkndfmcfhaaDoorLxU3
namespace Go.Proofs.YtikbgkndfmcfhaaDoor
open Go.RowKit
set_option linter.unusedVariables false
theorem sk_suffix : ∀ (l : List UInt8) (m : Bool), LxM.sk m l <:+ l
  | [], m => by cases m <;> exact List.suffix_refl _
  | c :: r, true => by
    rw [LxM.sk]
    split
    · exact (sk_suffix r false).trans (List.suffix_cons _ _)
    · exact (sk_suffix r true).trans (List.suffix_cons _ _)
  | c :: r, false => by
    rw [LxM.sk]
    split
    · exact (sk_suffix r false).trans (List.suffix_cons _ _)
    · split
      · exact (sk_suffix r true).trans (List.suffix_cons _ _)
      · exact List.suffix_refl _
theorem sp_drop (s : ByteArray) (k : Nat) : s.data.toList.drop (sp s k) = LxM.sk false (s.data.toList.drop k) := by
  have h := (sk_suffix (s.data.toList.drop k) false).trans (List.drop_suffix k s.data.toList)
  have h2 := List.suffix_iff_eq_drop.1 h
  unfold sp
  have : s.data.toList.length = s.size := by simp
  rw [← this]
  exact h2.symm
theorem sp_le (s : ByteArray) (k : Nat) : sp s k ≤ s.size := by unfold sp; omega
theorem sp_ge (s : ByteArray) (k : Nat) (h : k ≤ s.size) : k ≤ sp s k := by
  have := sk_at s false k
  unfold sp; omega
theorem rn_take (s : ByteArray) (k : Nat) : (s.data.toList.drop k).takeWhile LxM.wdb = (s.extract k (rn s k)).data.toList := by
  rw [exd2]
  unfold rn
  rw [Nat.add_sub_cancel_left]
  exact List.prefix_iff_eq_take.1 (List.takeWhile_prefix _)
theorem rn_drop (s : ByteArray) (k : Nat) : (s.data.toList.drop k).dropWhile LxM.wdb = s.data.toList.drop (rn s k) := by
  unfold rn
  rw [← List.drop_drop]
  conv => rhs; arg 2; rw [← List.takeWhile_append_dropWhile (p := LxM.wdb) (l := s.data.toList.drop k)]
  rw [List.drop_left]
theorem rn_le (s : ByteArray) (k : Nat) (h : k ≤ s.size) : rn s k ≤ s.size := by
  unfold rn
  have h1 := (List.takeWhile_prefix (p := LxM.wdb) (l := s.data.toList.drop k)).length_le
  rw [List.length_drop] at h1
  have : s.data.toList.length = s.size := by simp
  omega
theorem rn_ge (s : ByteArray) (k : Nat) : k ≤ rn s k := by unfold rn; omega
theorem rn_len (s : ByteArray) (k : Nat) : ((s.data.toList.drop k).takeWhile LxM.wdb).length = rn s k - k := by unfold rn; omega
theorem rn_gt (s : ByteArray) (k : Nat) (h : k < s.size) (hw : LxM.wd (LxM.i s[k]) = true) : k < rn s k := by
  rw [rn_on h hw]; have := rn_ge s (k + 1); omega
section
variable {s : ByteArray} {k : Nat} (h : k < s.size)
include h
theorem tk_name (hl : LxM.lt (LxM.i s[k]) = true) (h32 : rn s k - k ≤ 32) : LxM.tk (s.data.toList.drop k) = some (⟨if LxM.isWord (s.extract k (rn s k)).data.toList then 1 else 2, (s.extract k (rn s k)).data.toList, 0, 0⟩, s.data.toList.drop (rn s k)) := by
  have e := drop_cons s k h
  rw [e]
  unfold LxM.tk
  dsimp only
  rw [if_pos hl, ← e]
  unfold LxM.tkW
  rw [rn_len, if_pos h32, rn_take, rn_drop]
theorem tk_long (hl : LxM.lt (LxM.i s[k]) = true) (h32 : 32 < rn s k - k) : LxM.tk (s.data.toList.drop k) = none := by
  have e := drop_cons s k h
  rw [e]
  unfold LxM.tk
  dsimp only
  rw [if_pos hl, ← e]
  unfold LxM.tkW
  rw [rn_len, if_neg (by omega)]
theorem tk_int (hl : LxM.lt (LxM.i s[k]) = false) (hd : LxM.dg (LxM.i s[k]) = true) : LxM.tk (s.data.toList.drop k) = (LxM.num (s.extract k (rn s k)).data.toList).map fun v => (⟨3, [], v, 0⟩, s.data.toList.drop (rn s k)) := by
  have e := drop_cons s k h
  rw [e]
  unfold LxM.tk
  dsimp only
  rw [if_neg (by rw [hl]; decide), if_pos hd, ← e]
  unfold LxM.tkN
  rw [rn_take, rn_drop]
theorem tk_str (hl : LxM.lt (LxM.i s[k]) = false) (hd : LxM.dg (LxM.i s[k]) = false) (hm : s[k] = 34 ∨ s[k] = 39) : LxM.tk (s.data.toList.drop k) = (LxM.qs s[k] (s.data.toList.drop (k + 1))).map fun x => (⟨4, x.1, 0, 0⟩, x.2) := by
  rw [drop_cons s k h]
  unfold LxM.tk
  dsimp only
  rw [if_neg (by rw [hl]; decide), if_neg (by rw [hd]; decide), if_pos hm]
  rfl
omit h in
theorem ones_two (l : List UInt8) (hl : l.length = 2) : LxM.isSign l = LxM.twos.contains l := by
  unfold LxM.isSign
  rw [Bool.eq_iff_iff, List.contains_iff_mem, List.contains_iff_mem, List.mem_append]
  refine ⟨fun x => x.elim id fun x => ?_, .inl⟩
  have : ∀ y ∈ LxM.ones, y.length = 1 := by decide
  have := this l x
  omega
omit h in
theorem ones_one (l : List UInt8) (hl : l.length = 1) : LxM.isSign l = LxM.ones.contains l := by
  unfold LxM.isSign
  rw [Bool.eq_iff_iff, List.contains_iff_mem, List.contains_iff_mem, List.mem_append]
  refine ⟨fun x => x.elim (fun x => ?_) id, .inr⟩
  have : ∀ y ∈ LxM.twos, y.length = 2 := by decide
  have := this l x
  omega
theorem sg_le : k + sg (s.data.toList.drop k) ≤ s.size := by
  unfold sg
  rw [List.length_drop]
  have : s.data.toList.length = s.size := by simp
  split
  · omega
  · split <;> omega
theorem tk_sign (hl : LxM.lt (LxM.i s[k]) = false) (hd : LxM.dg (LxM.i s[k]) = false) (hm : ¬ (s[k] = 34 ∨ s[k] = 39)) : LxM.tk (s.data.toList.drop k) = if sg (s.data.toList.drop k) = 0 then none else some (⟨5, (s.extract k (k + sg (s.data.toList.drop k))).data.toList, 0, 0⟩, s.data.toList.drop (k + sg (s.data.toList.drop k))) := by
  have e := drop_cons s k h
  have hlen : (s.data.toList.drop k).length = s.size - k := by simp
  have t : LxM.tk (s.data.toList.drop k) = LxM.tkS (s.data.toList.drop k) := by
    rw [e]
    unfold LxM.tk
    dsimp only
    rw [if_neg (by rw [hl]; decide), if_neg (by rw [hd]; decide), if_neg hm]
  rw [t]
  rw [exd2, Nat.add_sub_cancel_left, ← List.drop_drop]
  unfold LxM.tkS sg
  rw [ones_one ((s.data.toList.drop k).take 1) (by rw [List.length_take]; omega)]
  by_cases h2 : 2 ≤ (s.data.toList.drop k).length
  · rw [ones_two ((s.data.toList.drop k).take 2) (by rw [List.length_take]; omega)]
    by_cases h3 : LxM.twos.contains ((s.data.toList.drop k).take 2) = true
    · have hc : 2 ≤ (s.data.toList.drop k).length ∧ LxM.twos.contains ((s.data.toList.drop k).take 2) = true := ⟨h2, h3⟩
      simp only [if_pos hc]
      rfl
    · have hc : ¬ (2 ≤ (s.data.toList.drop k).length ∧ LxM.twos.contains ((s.data.toList.drop k).take 2) = true) := fun x => h3 x.2
      simp only [if_neg hc]
      by_cases h4 : LxM.ones.contains ((s.data.toList.drop k).take 1) = true
      · simp only [if_pos h4]; rfl
      · simp only [if_neg h4]; rfl
  · have hc : ¬ (2 ≤ (s.data.toList.drop k).length ∧ LxM.twos.contains ((s.data.toList.drop k).take 2) = true) := fun x => h2 x.1
    have hc2 : ¬ (2 ≤ (s.data.toList.drop k).length ∧ LxM.isSign ((s.data.toList.drop k).take 2) = true) := fun x => h2 x.1
    simp only [if_neg hc, if_neg hc2]
    by_cases h4 : LxM.ones.contains ((s.data.toList.drop k).take 1) = true
    · simp only [if_pos h4]; rfl
    · simp only [if_neg h4]; rfl
end
end Go.Proofs.YtikbgkndfmcfhaaDoor
