/- The document's own list: DelScore. -/
import Derived.Test.YtopnbfhkfagemaaDoorSkStep
namespace Go.Proofs.YtopnbfhkfagemaaDoor
open Go.RowKit
set_option linter.unusedVariables false
set_option maxRecDepth 20000 in
set_option maxHeartbeats 8000000 in
theorem del_ref (w : World) (v : Value) (l : List SkM.E) (h : SList w v l) (h9 : l.length ≤ 1000) (nd : (l.map Prod.fst).Nodup) (s : ByteArray) :
    Calls Tryd.prog 11 #[v, .string s] w fun e w' => (∃ v', e = .returned (.tuple #[v', .bool (SkM.get l s.data.toList).isSome]) ∧ SList w' v' (SkM.del l s.data.toList) ∧ (v' = v ∨ InNew w w' v')) ∧ Below w.heap.size w w' := by
  have SL := Lib.hid h
  obtain ⟨A, c, rfl, -, hc, hr⟩ := h
  have HR := Lib.hid hr
  have ND := Lib.hid nd
  obtain ⟨n, hn⟩ : ∃ n, l.length = n := ⟨_, rfl⟩
  have HN := Lib.hid hn
  rw [hn] at h9 hc SL ⊢
  have N9 := Lib.hid h9
  have n9 : (n : Int) ≤ 1000 := by omega
  have n0 : (0 : Int) ≤ (n : Int) := by omega
  have nc : (n : Int) ≤ (c : Int) := by omega
  clear hr hn h9 hc nd
  go_enter Tryd.func11, Tryd.ntmps11
  go_wp2_with fail
  go_loop [6] (fun i => ∃ k : Nat, k ≤ n ∧ i = .int .i64 (k : Int) ∧ ∀ j (hj : j < l.length), j < k → l[j].1 ≠ s.data.toList) (fun i => n - (intOf i).toNat)
  case atStart => exact ⟨0, Nat.zero_le _, rfl, fun j hj h => absurd h (Nat.not_lt_zero _)⟩
  case round =>
    obtain ⟨k, hk, rfl, hb⟩ := hrel
    have HB := Lib.hid hb
    have k0 : (0 : Int) ≤ (k : Int) := by omega
    clear hb
    by_cases hlt : k < n
    · have k1 : (k : Int) < (n : Int) := by omega
      have hkl : k < l.length := by rw [HN.out]; exact hlt
      obtain ⟨a, rfl, ha, e0, -⟩ := HR.out k hkl
      obtain ⟨nm, hnm⟩ : ∃ nm : ByteArray, (⟨l[k].1.toArray⟩ : ByteArray) = nm := ⟨_, rfl⟩
      have NM : Hid (nm.data.toList = l[k].1) := by show nm.data.toList = l[k].1; rw [← hnm]
      rw [hnm] at e0
      have HKL := Lib.hid hkl
      have HLT := Lib.hid hlt
      clear hnm ha hlt
      cases e : (nm.toList == s.toList)
      · have e' : nm.toList ≠ s.toList := beq_eq_false_iff_ne.1 e
        have E := Lib.hid e'
        clear e'
        go_wp2_with fail
        go_round
        case rel => exact ⟨k + 1, HLT.out, by go_num, fun j hj hjk => by
          by_cases x : j = k
          · subst x; rw [← NM.out, ← ByteArray.toList_eq, ← ByteArray.toList_eq]; exact E.out
          · exact HB.out j hj (by omega)⟩
        case measure => have := HLT.out; simp [intOf]; omega
      have e' : nm.toList = s.toList := beq_iff_eq.1 e
      have es : Hid (l[k].1 = s.data.toList) := NM.out.symm.trans (by rw [← ByteArray.toList_eq, ← ByteArray.toList_eq]; exact e')
      have P := Lib.hid (rank_found HKL.out HB.out es.out)
      have DC : Hid (SkM.del l s.data.toList = l.take k ++ l.drop (k + 1)) := by show _ = _; rw [← es.out]; exact del_cut hkl ND.out
      have kn : (k : Int) ≤ (n : Int) := by omega
      have kc : (k : Int) ≤ (c : Int) := by omega
      have k9 : (k : Int) ≤ 1000 := by omega
      obtain ⟨kk, hkk⟩ : ∃ kk : Nat, kk = k + 1 := ⟨_, rfl⟩
      have hk2 : (k : Int) + 1 = (kk : Int) := by omega
      have hw1 : IntKind.i64.wrap (kk : Int) = (kk : Int) := by rw [IntKind.wrap_i64]; omega
      have kk0 : (0 : Int) ≤ (kk : Int) := by omega
      have kkn : (kk : Int) ≤ (n : Int) := by omega
      have HK := Lib.hid hkk
      clear e' hkk
      go_wp2_with fail
      refine wp_region_held_drew (S := fun W => Below w.heap.size w W) (by kernel_rfl) (Below.refl _ _).drew (fun hHeld => ?_)
      refine wpAnyH_take (i := 1) (v := ?_) rfl (by kernel_rfl) (by kernel_rfl) (by kernel_rfl) (fun _ _ _ h => h) (Or.inl ⟨by rfl, ?_⟩) hHeld ?_
      rotate_left
      · intro W hSw; go_simp; try with_reducible rfl
      refine wpAnyH_take (i := 2) (v := ?_) rfl (by kernel_rfl) (by kernel_rfl) (by kernel_rfl) (fun _ _ _ h => h) (Or.inl ⟨by rfl, ?_⟩) hHeld ?_
      rotate_left
      · intro W hSw; go_simp; try with_reducible rfl
      refine wpAnyH_take (i := 3) (v := ?_) rfl (by kernel_rfl) (by kernel_rfl) (by kernel_rfl) (fun _ _ _ h => h) (Or.inl ⟨by rfl, ?_⟩) hHeld ?_
      rotate_left
      · intro W hSw; go_simp; try with_reducible rfl
      refine wpAnyH_take (i := 5) (v := ?_) rfl (by kernel_rfl) (by kernel_rfl) (by kernel_rfl) (fun _ _ _ h => h) (Or.inl ⟨by rfl, ?_⟩) hHeld ?_
      rotate_left
      · intro W hSw; go_simp; try with_reducible rfl
      refine wpAnyH_take (i := 6) (v := ?_) rfl (by kernel_rfl) (by kernel_rfl) (by kernel_rfl) (fun _ _ _ h => h) (Or.inl ⟨by rfl, ?_⟩) hHeld ?_
      rotate_left
      · intro W hSw; go_simp; try with_reducible rfl
      refine wpAnyH_take (i := 7) (v := ?_) rfl (by kernel_rfl) (by kernel_rfl) (by kernel_rfl) (fun _ _ _ h => h) (Or.inl ⟨by rfl, ?_⟩) hHeld ?_
      rotate_left
      · intro W hSw; go_simp; try with_reducible rfl
      refine wpAnyH_take (i := 8) (v := ?_) rfl (by kernel_rfl) (by kernel_rfl) (by kernel_rfl) (fun _ _ _ h => h) (Or.inl ⟨by rfl, ?_⟩) hHeld ?_
      rotate_left
      · intro W hSw; go_simp; try with_reducible rfl
      refine wpAnyH_ready (rs := [0]) (by kernel_rfl) (by simp) ?_
      refine AllReadyH.cons rfl (fun K hK => ?_) AllReadyH.nil
      go_simp
      have bw1 : Below w.heap.size w (w.alloc (.cells #[] 30)).drew := ((Below.refl _ w).alloc (Nat.le_refl _) _).drew
      have own0 : SRow (w.alloc (.cells #[] 30)).drew w.heap.size (.slice (some ⟨w.heap.size, 0, none⟩) 0 0) [] := srow_none w _ rfl
      refine hK.out _ _ bw1 (fun hHeld1 => ?_)
      clear hK K hHeld
      refine wpAnyH_ready (rs := [4]) (by kernel_rfl) (by simp) ?_
      refine AllReadyH.cons rfl (fun K hK => ?_) AllReadyH.nil
      refine step_append_scores rfl (.tmp 20) (.tmp 23) rfl w _ [] rfl own0 _ (l.take k) rfl ((SL.out.front k (by have := HN.out; have := HLT.out; omega)).keep bw1) (by have := HN.out; have := N9.out; rw [List.length_take]; simp only [List.length_nil]; omega) bw1 ?_
      intro v1 w1 own1 bw2 _
      rw [List.nil_append] at own1
      refine hK.out _ _ bw2 (fun hHeld2 => ?_)
      clear hK K hHeld1 own0 bw1
      refine wpAnyH_ready (rs := [9]) (by kernel_rfl) (by simp) ?_
      refine AllReadyH.cons rfl (fun K hK => ?_) AllReadyH.nil
      refine step_append_scores rfl (.tmp 24) (.tmp 28) rfl w v1 (l.take k) rfl own1 _ (l.drop kk) rfl ((SL.out.behind kk (by have := HN.out; have := HLT.out; have := HK.out; omega)).keep bw2) (by have := HN.out; have := N9.out; rw [List.length_take, List.length_drop]; omega) bw2 ?_
      intro v2 w2 own2 bw3 _
      refine hK.out _ _ bw3 (fun hHeld3 => ?_)
      clear hK K hHeld2 own1 bw2
      refine wpAnyH_take (i := 10) (v := ?_) rfl (by kernel_rfl) (by kernel_rfl) (by kernel_rfl) (fun _ _ _ h => h) (Or.inl ⟨by rfl, ?_⟩) hHeld3 ?_
      rotate_left
      · intro W hSw; go_simp; try with_reducible rfl
      refine wpAnyH_take (i := 11) (v := ?_) rfl (by kernel_rfl) (by kernel_rfl) (by kernel_rfl) (fun _ _ _ h => h) (Or.inl ⟨by rfl, ?_⟩) hHeld3 ?_
      rotate_left
      · intro W hSw; go_simp; try with_reducible rfl
      refine wpAnyH_done (by kernel_rfl) ?_ _
      have OWN2 := Lib.hid own2
      have BW3 := Lib.hid bw3
      clear own2 bw3 hHeld3
      go_wp2_with fail
      all_goals go_ret2
      all_goals exact ⟨⟨v2, by rw [P.out.2]; rfl, by have := OWN2.out.list; rw [show kk = k + 1 from HK.out] at this; rw [DC.out]; exact this, .inr OWN2.out.fresh⟩, BW3.out⟩
    · have k1 : (n : Int) ≤ (k : Int) := by omega
      have P := Lib.hid (rank_gone (l := l) (s := s.data.toList) fun j hj => HB.out j hj (by have := HN.out; omega))
      clear hlt hk
      go_wp2_with fail
      go_ret2
      exact ⟨⟨_, by rw [P.out]; rfl, by rw [SkM.del_none P.out]; exact SL.out, .inl rfl⟩, Below.refl _ _⟩
end Go.Proofs.YtopnbfhkfagemaaDoor
