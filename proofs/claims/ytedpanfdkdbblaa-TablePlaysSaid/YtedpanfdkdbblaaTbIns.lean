/- Package table: an entry put at the beginning of its chain; a name looked for in a chain. -/
import Derived.Test.YtedpanfdkdbblaaTbHeap
namespace Go.Proofs.Ytedpanfdkdbblaa
open Go.RowKit
set_option linter.unusedVariables false
/-- A chain of an array. -/
def chainAt (cs : List (List Nd)) (j : Nat) : List Nd := cs.getD j []
theorem chainAt_is {cs : List (List Nd)} {j : Nat} (h : j < cs.length) : chainAt cs j = cs[j] := by simp [chainAt, h]
theorem hd_ptr (ns : List Nd) : ∃ o, hd ns = .pointer o := by cases ns <;> exact ⟨_, rfl⟩
theorem Arr.at_ {w : World} {B : Nat} {cs : List (List Nd)} (h : Arr w B cs) {j : Nat} (hj : j < cs.length) : Chain w ⟨B, j, none⟩ (chainAt cs j) := by
  rw [chainAt_is hj]; exact h.chain j hj
theorem flat_mem {cs : List (List Nd)} {j : Nat} {x : Nd} (h : x ∈ chainAt cs j) : x ∈ cs.flatten := by
  unfold chainAt at h
  rcases Nat.lt_or_ge j cs.length with k | k
  · simp [k] at h
    exact List.mem_flatten.2 ⟨_, List.getElem_mem k, h⟩
  · simp [k] at h
set_option maxHeartbeats 2000000 in
theorem insert_walk (w : World) (B k : Nat) (x : Nd) (v0 : Value) (o : Option Addr) (hx : NdAt w x v0) (hc : w.cell? ⟨B, slotOf k x.s, none⟩ = some (.pointer o)) (hf : w.frozen? ⟨B, slotOf k x.s, none⟩ = false) (hB : x.b ≠ B) (hs : x.s.length ≤ 1048576) (k0 : 0 < k) (k9 : k ≤ 1048576) :
    Calls Try.prog 35 #[.slice (some ⟨B, 0, none⟩) k k, .pointer (some ⟨x.b, 0, none⟩)] w fun e w' => e = .returned (.tuple #[]) ∧ w' = (w.setCell ⟨x.b, 2, none⟩ (.pointer o)).setCell ⟨B, slotOf k x.s, none⟩ (.pointer (some ⟨x.b, 0, none⟩)) := by
  obtain ⟨s, hs'⟩ : ∃ s : ByteArray, (⟨x.s.toArray⟩ : ByteArray) = s := ⟨_, rfl⟩
  have sd : s.data.toList = x.s := by rw [← hs']
  have sz : s.size ≤ 1048576 := by rw [← hs']; exact hs
  obtain ⟨h0, h1, h2, fr, lt⟩ := hx
  rw [hs'] at h0
  obtain ⟨b, hb⟩ : ∃ b, x.b = b := ⟨_, rfl⟩
  obtain ⟨j, hj⟩ : ∃ j, slotOf k x.s = j := ⟨_, rfl⟩
  rw [hb] at h0 h2 fr hB ⊢
  rw [hj] at hc hf ⊢
  have f2 := fr 2
  have HSJ : Hid (slotOf k s.data.toList = j) := by show slotOf k s.data.toList = j; rw [sd]; exact hj
  have SZ := Lib.hid sz
  clear h1 fr lt hs hs' hb hj sd sz
  go_enter Try.func35, Try.ntmps35
  go_wp2_with fail
  go_at_call 48
  refine (chain_any w B k s SZ.out k0 k9).mono ?_
  rintro e w' ⟨rfl, rfl⟩
  rw [HSJ.out]
  go_wp2_with fail
  go_end0
  exact ⟨rfl, rfl⟩
theorem insert_any {w : World} {B : Nat} {cs : List (List Nd)} {x : Nd} {v0 : Value} (hA : Arr w B cs) (hx : NdAt w x v0) (hB : x.b ≠ B) (hn : ∀ y ∈ cs.flatten, y.b ≠ x.b) (hb : ∀ y ∈ cs.flatten, y.b ≠ B) (hs : x.s.length ≤ 1048576) (k0 : 0 < cs.length) (k9 : cs.length ≤ 1048576) :
    Calls Try.prog 35 #[.slice (some ⟨B, 0, none⟩) cs.length cs.length, .pointer (some ⟨x.b, 0, none⟩)] w fun e w' => e = .returned (.tuple #[]) ∧
      Turn (fun a => a = ⟨x.b, 2, none⟩ ∨ a = ⟨B, slotOf cs.length x.s, none⟩) w w' ∧ Arr w' B (cs.set (slotOf cs.length x.s) (x :: chainAt cs (slotOf cs.length x.s))) := by
  have hj := slotOf_lt cs.length x.s k0
  have c := hA.at_ hj
  obtain ⟨o, ho⟩ := hd_ptr (chainAt cs (slotOf cs.length x.s))
  refine (insert_walk w B cs.length x v0 o hx (by rw [c.at_, ho]) c.free hB hs k0 k9).mono ?_
  rw [← ho]
  rintro e w' ⟨he, rfl⟩
  have t : Turn (fun a => a = ⟨x.b, 2, none⟩ ∨ a = ⟨B, slotOf cs.length x.s, none⟩) w ((w.setCell ⟨x.b, 2, none⟩ (hd (chainAt cs (slotOf cs.length x.s)))).setCell ⟨B, slotOf cs.length x.s, none⟩ (.pointer (some ⟨x.b, 0, none⟩))) :=
    ((Turn.refl _ w).store (.inl (.inl rfl)) _).store (.inl (.inr rfl)) _
  have far : ∀ y ∈ cs.flatten, ∀ i, ¬ ((⟨y.b, i, none⟩ : Addr) = ⟨x.b, 2, none⟩ ∨ (⟨y.b, i, none⟩ : Addr) = ⟨B, slotOf cs.length x.s, none⟩) := fun y hy i e => by
    rcases e with e | e
    · injection e with e _ _; exact hn y hy e
    · injection e with e _ _; exact hb y hy e
  refine ⟨he, t, hA.set t (fun i hi e => ?_) (fun i hi _ y hy k => far y (List.mem_flatten.2 ⟨_, List.getElem_mem hi, hy⟩) k) ⟨?_, ⟨⟨?_, ?_, ?_, fun i => ?_, ?_⟩, c.seg.turn t fun y hy => far y (flat_mem hy)⟩, ?_, ?_⟩⟩
  · rcases e with e | e
    · injection e with e _ _; exact hB e.symm
    · injection e with _ e _; exact hi e
  · exact World.cell?_setCell_same (u := hd (chainAt cs (slotOf cs.length x.s))) _ _ _ (by rw [World.cell?_setCell_other _ _ _ _ (fun e => by injection e with e _ _; exact hB e), c.at_])
  · rw [t.cell _ hx.lt (fun e => ?_), hx.name]
    rcases e with e | e
    · injection e with _ e _; cases e
    · injection e with e _ _; exact hB e
  · rw [t.cell _ hx.lt (fun e => ?_), hx.num]
    rcases e with e | e
    · injection e with _ e _; cases e
    · injection e with e _ _; exact hB e
  · rw [World.cell?_setCell_other _ _ _ _ (fun e => by injection e with e _ _; exact hB e.symm)]
    exact World.cell?_setCell_same (u := v0) _ _ _ hx.next
  · rw [t.frozen _ hx.lt, hx.free]
  · exact Nat.lt_of_lt_of_le hx.lt t.size
  · rw [t.frozen _ hA.lt, hA.free]
  · exact Nat.lt_of_lt_of_le hA.lt t.size
end Go.Proofs.Ytedpanfdkdbblaa
