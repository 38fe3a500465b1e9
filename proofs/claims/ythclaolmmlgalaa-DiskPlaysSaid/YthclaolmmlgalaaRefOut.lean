/- The document's own disk: a file taken out of the row. -/
import Derived.Test.YthclaolmmlgalaaRefRow
import Derived.Deep.RegionHeldLaw
import Derived.Test.YthclaolmmlgalaaTail
namespace Go.Proofs.Ythclaolmmlgalaa
open Go.RowKit
set_option linter.unusedVariables false

/-- What the region of 'out' reads: the disk's row. -/
structure RRow (w : World) (g : Nat) (A : Option Addr) (n c : Nat) (l : List DiskM.F) : Prop where
  c0 : w.cell? ⟨g, 0, none⟩ = some (.slice A n c)
theorem Files.news {w : World} {h : Nat} {l : List DiskM.F} (F : Files w h l) (k : Nat) : ∀ j u, (fcells (l.drop k))[j]? = some u → w.cell? ⟨h, k * 3 + j, none⟩ = some u := fun j u hu => by
  have hj : j < (l.drop k).length * 3 := by
    have := (List.getElem?_eq_some_iff.1 hu).1
    rwa [fcells_length] at this
  have hd : (l.drop k).length = l.length - k := List.length_drop
  obtain ⟨q, r, hr, rfl⟩ : ∃ q r, r < 3 ∧ j = q * 3 + r := ⟨j / 3, j % 3, by omega, by omega⟩
  have hq : q < (l.drop k).length := by omega
  have hq' : k + q < l.length := by omega
  obtain ⟨a, b, c⟩ := fcells_at (l.drop k) q hq
  obtain ⟨x, y, z, _⟩ := F.2 (k + q) hq'
  have e : k * 3 + (q * 3 + r) = (k + q) * 3 + r := by omega
  have eg : (l.drop k)[q] = l[k + q] := by simp
  rw [e]
  rw [eg] at a b c
  rcases (by omega : r = 0 ∨ r = 1 ∨ r = 2) with rfl | rfl | rfl
  · rw [Nat.add_zero] at hu ⊢; rw [x, ← a, hu]
  · rw [y, ← b, hu]
  · rw [z, ← c, hu]
theorem Files.front {w : World} {h : Nat} {l : List DiskM.F} (F : Files w h l) (k : Nat) : ∀ j u, (fcells (l.take k))[j]? = some u → w.cell? ⟨h, j, none⟩ = some u := fun j u hu => by
  have h0 := F.news 0 j u
  rw [List.drop_zero, Nat.zero_mul, Nat.zero_add] at h0
  refine h0 ?_
  have e : fcells l = fcells (l.take k) ++ fcells (l.drop k) := by rw [← fcells_append, List.take_append_drop]
  rw [e, List.getElem?_append_left (List.getElem?_eq_some_iff.1 hu).1, hu]
set_option maxRecDepth 20000 in
set_option maxHeartbeats 4000000 in
theorem out_walk (w : World) (g h : Nat) (l : List DiskM.F) (n c k : Nat) (hn : l.length = n) (hF : Files w h l) (c0 : w.cell? ⟨g, 0, none⟩ = some (.slice (some ⟨h, 0, none⟩) n c)) (f0 : w.frozen? ⟨g, 0, none⟩ = false) (hc : n ≤ c) (hk : k < n) (hfew : n ≤ 1000) (hgh : g ≠ h) :
    Calls Try.prog 42 #[.pointer (some ⟨g, 0, none⟩), .int .i64 k] w fun e w' => e = .returned (.tuple #[]) ∧ ∃ v W, w' = W.setCell ⟨g, 0, none⟩ v ∧ Below w.heap.size w W ∧ W.ownsRow w.heap.size 52 3 v (n - 1) (fcells (l.take k ++ l.drop (k + 1))) := by
  have k0 : (0 : Int) ≤ (k : Int) := by omega
  have kn : (k : Int) ≤ (n : Int) := by omega
  have kc : (k : Int) ≤ (c : Int) := by omega
  have k1 : (k : Int) + 1 ≤ (n : Int) := by omega
  have k9 : (k : Int) ≤ 1000 := by omega
  obtain ⟨kk, hkk⟩ : ∃ kk : Nat, kk = k + 1 := ⟨_, rfl⟩
  have hk2 : (k : Int) + 1 = (kk : Int) := by omega
  have hw1 : IntKind.i64.wrap (kk : Int) = (kk : Int) := by rw [IntKind.wrap_i64]; omega
  have kk0 : (0 : Int) ≤ (kk : Int) := by omega
  have kkn : (kk : Int) ≤ (n : Int) := by omega
  have HK := Lib.hid hkk
  have HF := Lib.hid hF
  have HN := Lib.hid hn
  clear hF hn hkk
  go_enter Try.func42, Try.ntmps42
  go_wp2_with fail
  refine wp_region_tail_list (S := fun W => Below w.heap.size w W ∧ W.cell? ⟨g, 0, none⟩ = some (.slice (some ⟨h, 0, none⟩) n c)) (by simp) (by kernel_rfl) (by kernel_rfl) ⟨(Below.refl _ _).drew, c0⟩ (fun hHeld => ?_)
  simp only [List.dropLast_cons_cons, List.dropLast_singleton, List.getLast_cons_cons, List.getLast_singleton, List.length_cons, List.length_nil, Nat.reduceAdd]
  refine wpAnyH_take (i := 0) (v := ?_) rfl (by kernel_rfl) (by kernel_rfl) (by kernel_rfl) (fun _ _ _ h => h) (Or.inl ⟨by rfl, ?_⟩) hHeld ?_
  rotate_left
  · intro W hSw; obtain ⟨hb, hcell⟩ := hSw; go_simp; try with_reducible rfl
  refine wpAnyH_take (i := 2) (v := ?_) rfl (by kernel_rfl) (by kernel_rfl) (by kernel_rfl) (fun _ _ _ h => h) (Or.inl ⟨by rfl, ?_⟩) hHeld ?_
  rotate_left
  · intro W hSw; obtain ⟨hb, hcell⟩ := hSw; go_simp; try with_reducible rfl
  refine wpAnyH_take (i := 3) (v := ?_) rfl (by kernel_rfl) (by kernel_rfl) (by kernel_rfl) (fun _ _ _ h => h) (Or.inl ⟨by rfl, ?_⟩) hHeld ?_
  rotate_left
  · intro W hSw; obtain ⟨hb, hcell⟩ := hSw; go_simp; try with_reducible rfl
  refine wpAnyH_take (i := 4) (v := ?_) rfl (by kernel_rfl) (by kernel_rfl) (by kernel_rfl) (fun _ _ _ h => h) (Or.inl ⟨by rfl, ?_⟩) hHeld ?_
  rotate_left
  · intro W hSw; obtain ⟨hb, hcell⟩ := hSw; go_simp; try with_reducible rfl
  refine wpAnyH_take (i := 5) (v := ?_) rfl (by kernel_rfl) (by kernel_rfl) (by kernel_rfl) (fun _ _ _ h => h) (Or.inl ⟨by rfl, ?_⟩) hHeld ?_
  rotate_left
  · intro W hSw; obtain ⟨hb, hcell⟩ := hSw; go_simp; try with_reducible rfl
  refine wpAnyH_take (i := 6) (v := ?_) rfl (by kernel_rfl) (by kernel_rfl) (by kernel_rfl) (fun _ _ _ h => h) (Or.inl ⟨by rfl, ?_⟩) hHeld ?_
  rotate_left
  · intro W hSw; obtain ⟨hb, hcell⟩ := hSw; go_simp; try with_reducible rfl
  refine wpAnyH_take (i := 7) (v := ?_) rfl (by kernel_rfl) (by kernel_rfl) (by kernel_rfl) (fun _ _ _ h => h) (Or.inl ⟨by rfl, ?_⟩) hHeld ?_
  rotate_left
  · intro W hSw; obtain ⟨hb, hcell⟩ := hSw; go_simp; try with_reducible rfl
  refine wpAnyH_take (i := 9) (v := ?_) rfl (by kernel_rfl) (by kernel_rfl) (by kernel_rfl) (fun _ _ _ h => h) (Or.inl ⟨by rfl, ?_⟩) hHeld ?_
  rotate_left
  · intro W hSw; obtain ⟨hb, hcell⟩ := hSw; go_simp; try with_reducible rfl
  refine wpAnyH_take (i := 10) (v := ?_) rfl (by kernel_rfl) (by kernel_rfl) (by kernel_rfl) (fun _ _ _ h => h) (Or.inl ⟨by rfl, ?_⟩) hHeld ?_
  rotate_left
  · intro W hSw; obtain ⟨hb, hcell⟩ := hSw; go_simp; try with_reducible rfl
  refine wpAnyH_take (i := 11) (v := ?_) rfl (by kernel_rfl) (by kernel_rfl) (by kernel_rfl) (fun _ _ _ h => h) (Or.inl ⟨by rfl, ?_⟩) hHeld ?_
  rotate_left
  · intro W hSw; obtain ⟨hb, hcell⟩ := hSw; go_simp; try with_reducible rfl
  refine wpAnyH_take (i := 12) (v := ?_) rfl (by kernel_rfl) (by kernel_rfl) (by kernel_rfl) (fun _ _ _ h => h) (Or.inl ⟨by rfl, ?_⟩) hHeld ?_
  rotate_left
  · intro W hSw; obtain ⟨hb, hcell⟩ := hSw; go_simp; try with_reducible rfl
  refine wpAnyH_take (i := 13) (v := ?_) rfl (by kernel_rfl) (by kernel_rfl) (by kernel_rfl) (fun _ _ _ h => h) (Or.inl ⟨by rfl, ?_⟩) hHeld ?_
  rotate_left
  · intro W hSw; obtain ⟨hb, hcell⟩ := hSw; go_simp; try with_reducible rfl
  refine wpAnyH_take (i := 14) (v := ?_) rfl (by kernel_rfl) (by kernel_rfl) (by kernel_rfl) (fun _ _ _ h => h) (Or.inl ⟨by rfl, ?_⟩) hHeld ?_
  rotate_left
  · intro W hSw; obtain ⟨hb, hcell⟩ := hSw; go_simp; try with_reducible rfl
  refine wpAnyH_take (i := 15) (v := ?_) rfl (by kernel_rfl) (by kernel_rfl) (by kernel_rfl) (fun _ _ _ h => h) (Or.inl ⟨by rfl, ?_⟩) hHeld ?_
  rotate_left
  · intro W hSw; obtain ⟨hb, hcell⟩ := hSw; go_simp; try with_reducible rfl
  refine wpAnyH_ready (rs := [1]) (by kernel_rfl) (by simp) ?_
  refine AllReadyH.cons rfl (fun K hK => ?_) AllReadyH.nil
  go_simp
  have bw1 : Below w.heap.size w (w.alloc (.cells #[] 52)).drew := ((Below.refl _ w).alloc (Nat.le_refl _) _).drew
  refine hK.out _ _ ⟨bw1, by simp [World.cell?_alloc_some, c0]⟩ (fun hHeld1 => ?_)
  clear hK K hHeld
  refine wpAnyH_ready (rs := [8]) (by kernel_rfl) (by simp) ?_
  refine AllReadyH.cons rfl (fun K hK => ?_) AllReadyH.nil
  refine step_append_files rfl (.tmp 5) (.tmp 11) rfl w.heap.size _ 0 [] rfl ⟨rfl, .inr ⟨w.heap.size, 0, #[], rfl, Nat.le_refl _, heap_alloc_new _ _, Nat.le_refl _, Nat.zero_le _, rfl, rfl⟩⟩ (some ⟨h, 0, none⟩) k c (l.take k) rfl (by rw [List.length_take, HN.out]; omega) (fun e => nomatch e) (fun j u hu => ⟨_, rfl, ?_⟩) (by omega) (by simp) ?_
  · have e := HF.out.front k j u hu
    have q := (Addr.add_lit h 0 j)
    rw [q, Nat.zero_add, bw1.cell (HF.out.1 (by rw [HN.out]; omega))]
    exact e
  intro v1 w1 own1 gr1 wh1
  have bw2 : Below w.heap.size w w1 := bw1.grown gr1 bw1.size fun j hj => by injection hj with hj; exact Nat.le_of_eq hj
  refine hK.out _ _ ⟨bw2, by rw [bw2.cell (World.block_lt_of_cell? _ _ c0)]; exact c0⟩ (fun hHeld2 => ?_)
  clear hK K hHeld1
  rw [List.nil_append, Nat.zero_add] at own1
  refine wpAnyH_ready (rs := [16]) (by kernel_rfl) (by simp) ?_
  refine AllReadyH.cons rfl (fun K hK => ?_) AllReadyH.nil
  refine step_append_files rfl (.tmp 12) (.tmp 19) rfl w.heap.size v1 k _ rfl own1 _ (n - kk) (c - kk) (l.drop kk) rfl (by rw [List.length_drop, HN.out]) (fun e => by split at e <;> cases e) (fun j u hu => ?_) (by omega) bw2.size ?_
  · have e := HF.out.news kk j u hu
    have hne : c ≠ kk := fun z => by
      have h1 := (List.getElem?_eq_some_iff.1 hu).1
      rw [fcells_length, List.length_drop, HN.out] at h1
      omega
    refine ⟨⟨h, kk * 3, none⟩, by rw [if_neg hne], ?_⟩
    rw [Addr.add_lit, bw2.cell (HF.out.1 (by rw [HN.out]; omega))]
    exact e
  intro v2 w2 own2 gr2 wh2
  have bw3 : Below w.heap.size w w2 := bw2.grown gr2 bw2.size fun j hj => by
    rcases (own1.2) with ⟨z, _⟩ | ⟨g', cap', cur', z, hg', _⟩
    · rw [z] at hj; cases hj
    · rw [z] at hj; injection hj with hj; rw [← hj]; exact hg'
  refine hK.out _ _ ⟨bw3, by rw [bw3.cell (World.block_lt_of_cell? _ _ c0)]; exact c0⟩ (fun hHeld3 => ?_)
  clear hK K hHeld2
  refine wpAnyH_take (i := 17) (v := ?_) rfl (by kernel_rfl) (by kernel_rfl) (by kernel_rfl) (fun _ _ _ h => h) (Or.inl ⟨by rfl, ?_⟩) hHeld3 ?_
  rotate_left
  · intro W hSw; obtain ⟨hb, hcell⟩ := hSw; go_simp; try with_reducible rfl
  refine wpAnyH_take (i := 18) (v := ?_) rfl (by kernel_rfl) (by kernel_rfl) (by kernel_rfl) (fun _ _ _ h => h) (Or.inl ⟨by rfl, ?_⟩) hHeld3 ?_
  rotate_left
  · intro W hSw; obtain ⟨hb, hcell⟩ := hSw; go_simp; try with_reducible rfl
  refine wpAnyH_done (by kernel_rfl) ?_ _
  obtain ⟨A9, c9, rfl⟩ := row_slice own2
  have cz : w2.cell? ⟨g, 0, none⟩ = some (.slice (some ⟨h, 0, none⟩) n c) := hHeld3.2
  have fz : w2.frozen? ⟨g, 0, none⟩ = false := by rw [bw3.frozen (World.block_lt_of_cell? _ _ c0)]; exact f0
  refine behind_normal (wpOp_step rfl (fun K hK => ?_))
  go_simp
  refine hK _ _ ?_
  go_end0
  have e1 : k + (n - kk) = n - 1 := by have := HK.out; omega
  rw [← fcells_append, HK.out, ← HK.out, e1] at own2
  rw [e1]
  exact ⟨rfl, _, w2, rfl, bw3, by rw [HK.out] at own2; exact own2⟩
end Go.Proofs.Ythclaolmmlgalaa
