/- Package chunk: the texts of a chunk moved to the one ahead of it. -/
import Derived.Test.YteghokakjonblaaChSparse
import Derived.Test.YteghokakjonblaaChDelC
import Derived.Test.YteghokakjonblaaChIn
namespace Go.Proofs.Yteghokakjonblaa
open Go.RowKit Go.Lib
set_option linter.unusedVariables false
theorem insAt_end (l : List ByteArray) (s : ByteArray) : insAt l l.length s = l ++ [s] := by unfold insAt; simp
set_option maxHeartbeats 4000000 in
theorem merge_any (w : World) (q : Nat) (R : Ch) (h : Lies w q R) {pre post : List Ck} {c d : Ck} (e : R.cs = pre ++ c :: d :: post) (hd : d.l ≠ []) (hs : c.l.length + d.l.length ≤ 1048576) :
    Calls Try.prog 39 #[.pointer (some ⟨q, 0, none⟩), .int .i64 (pre.length : Int)] w fun e w' => e = .returned (.tuple #[]) ∧ ∃ c' : Ck, c'.l = c.l ++ d.l ∧ Step w q R w' { R with cs := pre ++ c' :: post } := by
  have H := Lib.hid h
  have E := Lib.hid e
  have HD := Lib.hid hd
  have HS := Lib.hid hs
  obtain ⟨B, eB, sp0⟩ := h.spot e
  have EB := Lib.hid eB
  have b0 := sp0.len
  have b1 := sp0.big
  have Bq := sp0.Bq
  have fq := sp0.fq
  have lq := h.lt
  have lB := (h.some_ B eB).lt
  -- what stands in memory once c has become c'
  obtain ⟨p, ep⟩ : ∃ p, p = pre.length := ⟨_, rfl⟩
  obtain ⟨n, en⟩ : ∃ n, n = R.cs.length := ⟨_, rfl⟩
  obtain ⟨p1, ep1⟩ : ∃ p1, p1 = p + 1 := ⟨_, rfl⟩
  obtain ⟨D, eD⟩ : ∃ D, D = d.l.length := ⟨_, rfl⟩
  obtain ⟨x, ex⟩ : ∃ x, x = d.b := ⟨_, rfl⟩
  obtain ⟨y, ey⟩ : ∃ y, y = d.off := ⟨_, rfl⟩
  obtain ⟨z, ez⟩ : ∃ z, z = d.cap := ⟨_, rfl⟩
  have nn : n = pre.length + post.length + 2 := by rw [en, e]; simp; omega
  have hp1 : p1 < n := by omega
  have dz := (h.ck d (by rw [e]; simp)).len
  have dz9 := (h.ck d (by rw [e]; simp)).big
  rw [List.length_map, ← eD, ← ez] at dz
  rw [← ez] at dz9
  rw [← eD] at hs
  rw [← en] at b0
  have OPEN : Hid (∀ (wr : World) (c' : Ck), Lies wr q { R with cs := pre ++ c' :: d :: post } → wr.cell? ⟨q, 0, none⟩ = some (.slice (some ⟨B, 0, none⟩) n R.cap) ∧ wr.cell? ⟨B, p, none⟩ = some (.slice (some ⟨c'.b, c'.off, none⟩) c'.l.length c'.cap) ∧ wr.cell? ⟨B, p1, none⟩ = some (.slice (some ⟨x, y, none⟩) D z) ∧ wr.frozen? ⟨B, p, none⟩ = false ∧ wr.frozen? ⟨q, 0, none⟩ = false ∧ (∀ j (hj : j < d.l.length), wr.cell? ⟨x, y + j, none⟩ = some (.string d.l[j])) ∧ CkAt wr c' ∧ c'.b ≠ q ∧ c'.b ≠ B) := by
    intro wr c' l
    have k0 := l.head
    have k1 := l.slot (pre := pre) (c := c') (post := d :: post) rfl eB
    have k2 := l.slot (pre := pre ++ [c']) (c := d) (post := post) (by simp) eB
    rw [List.length_append] at k2
    have k3 := (l.some_ B eB).free p
    have ck := l.ck d (by simp)
    refine ⟨?_, by rw [ep]; exact k1, by rw [ep1, ep]; rw [ex, ey, ez, eD]; exact k2, k3, l.free 0, fun j hj => ?_, l.ck c' (by simp), l.cq c' (by simp), l.cB B eB c' (by simp)⟩
    · have k0 : wr.cell? ⟨q, 0, none⟩ = some (hdv R.B (pre ++ c' :: d :: post).length R.cap) := k0
      rw [eB] at k0
      rw [k0]
      show some (Value.slice (some ⟨B, 0, none⟩) (pre ++ c' :: d :: post).length R.cap) = _
      rw [show (pre ++ c' :: d :: post).length = n by rw [nn]; simp; omega]
    · have := ck.get j (.string d.l[j]) (by simp [hj])
      rw [ex, ey]; exact this
  have e1 : (p : Int) + 1 = (p1 : Int) := by omega
  have wp1 : IntKind.i64.wrap (p1 : Int) = (p1 : Int) := by rw [IntKind.wrap_i64]; omega
  have p0 : (0 : Int) ≤ (p : Int) := by omega
  have p2 : (p : Int) < (n : Int) := by omega
  have q0 : (0 : Int) ≤ (p1 : Int) := by omega
  have q2 : (p1 : Int) < (n : Int) := by omega
  have D9 : (D : Int) ≤ 1048576 := by omega
  have D0 : (0 : Int) ≤ (D : Int) := by omega
  have NUM : Hid (p = pre.length ∧ n = R.cs.length ∧ p1 = p + 1 ∧ D = d.l.length ∧ x = d.b ∧ y = d.off ∧ z = d.cap ∧ p1 < n) := ⟨ep, en, ep1, eD, ex, ey, ez, hp1⟩
  have c00 : { R with cs := pre ++ c :: d :: post } = R := by rw [← e]
  have st0 : Hid (Step w q R w { R with cs := pre ++ c :: d :: post }) := by
    show Step _ _ _ _ _
    rw [c00]
    exact Step.refl h (Below.refl _ w)
  obtain ⟨a0, a1, a2, a3, a4, a5, a6, a7, a8⟩ := OPEN.out w c st0.out.lies
  rw [← ep]
  clear h e hd hs eB sp0 ep en ep1 eD ex ey ez nn hp1 c00 a1 a3 a4 a5 a6 a7 a8
  go_enter Try.func39, Try.ntmps39
  go_wp2_with fail
  go_loopw [5, 15] (fun _ i wr => ∃ (j : Nat) (c' : Ck), j ≤ D ∧ i = .int .i64 (j : Int) ∧ c'.l = c.l ++ d.l.take j ∧ Step w q R wr { R with cs := pre ++ c' :: d :: post }) (fun _ i _ => D - (RowKit.intOf i).toNat)
  case atStart => exact ⟨0, c, Nat.zero_le _, rfl, by simp, st0.out⟩
  case round =>
    obtain ⟨j, c', hj, rfl, hl, st⟩ := hrel
    have ST := Lib.hid (And.intro st hl)
    obtain ⟨k0, k1, k2, k3, k4, k5, k6, k7, k8⟩ := OPEN.out wr c' st.lies
    obtain ⟨L, eL⟩ : ∃ L, L = c'.l.length := ⟨_, rfl⟩
    rw [← eL] at k1
    have bL := k6.len
    have bL9 := k6.big
    rw [List.length_map, ← eL] at bL
    have j0 : (0 : Int) ≤ (j : Int) := by omega
    by_cases lt : j < D
    · have lt' : (j : Int) < (D : Int) := by omega
      have jd : j < d.l.length := by rw [← NUM.out.2.2.2.1]; exact lt
      have k5j := k5 j jd
      obtain ⟨s, es⟩ : ∃ s, s = d.l[j] := ⟨_, rfl⟩
      rw [← es] at k5j
      have L9 : L ≤ 1048576 := by
        have := HS.out
        rw [eL, hl, List.length_append, List.length_take]
        omega
      have HP : Hid (∀ W, Below wr.heap.size wr W → Calls Try.prog 28 #[.slice (some ⟨c'.b, c'.off, none⟩) L c'.cap, .int .i64 (L : Int), .string s] W (PutIn W c' L s)) := fun W hb => by
        have := put_any W c' (k6.below hb) L (by omega) (by omega) s
        unfold ckv at this
        rwa [← eL] at this
      have FACT : Hid (∀ W, Below wr.heap.size wr W → ∀ e w', PutIn W c' L s e w' → ∃ c2 : Ck, e = .returned (.slice (some ⟨c2.b, c2.off, none⟩) (L + 1) c2.cap) ∧ w'.cell? ⟨q, 0, none⟩ = some (.slice (some ⟨B, 0, none⟩) n R.cap) ∧ w'.cell? ⟨B, p, none⟩ = some (.slice (some ⟨c'.b, c'.off, none⟩) L c'.cap) ∧ w'.frozen? ⟨B, p, none⟩ = false ∧
          c2.l = c.l ++ d.l.take (j + 1) ∧ Step w q R (w'.setCell ⟨B, p, none⟩ (.slice (some ⟨c2.b, c2.off, none⟩) (L + 1) c2.cap)) { R with cs := pre ++ c2 :: d :: post }) := by
        rintro W hb e w' ⟨c2, rfl, ck2, el, t, alt⟩
        have tw : Turn c'.rng wr w' := (Turn.of_below (D := c'.rng) hb).trans t fun a x => .inl x
        have sz := hb.size
        have lq' : q < wr.heap.size := st.lies.lt
        have lB' : B < wr.heap.size := (st.lies.some_ B EB.out).lt
        have len2 : c2.l.length = L + 1 := by rw [el, insAt_len _ _ _ (by omega), eL]
        have stp := st.lies.step (pre := pre) (c := c') (c' := c2) (post := d :: post) (B := B) rfl EB.out tw ck2 (by
          rcases PutIn.rng (k := L) (s := s) (w' := w') alt with x | x
          · exact .inl x
          · exact .inr (by omega))
        have cv : ckv c2 = .slice (some ⟨c2.b, c2.off, none⟩) (L + 1) c2.cap := by unfold ckv; rw [len2]
        rw [cv, ← NUM.out.1] at stp
        refine ⟨c2, by rw [cv], ?_, ?_, ?_, ?_, st.trans stp⟩
        · rw [tw.cell _ lq' (fun x => k7 x.1.symm)]; exact k0
        · rw [tw.cell _ lB' (fun x => k8 x.1.symm)]; exact k1
        · rw [tw.frozen _ lB']; exact k3
        · rw [el, eL, insAt_end, hl, List.append_assoc, es, List.take_add_one, List.getElem?_eq_getElem jd]
          rfl
      obtain ⟨xb, exb⟩ : ∃ x, x = c'.b := ⟨_, rfl⟩
      obtain ⟨xo, exo⟩ : ∃ x, x = c'.off := ⟨_, rfl⟩
      obtain ⟨xc, exc⟩ : ∃ x, x = c'.cap := ⟨_, rfl⟩
      rw [← exb, ← exo, ← exc] at HP FACT k1
      rw [← exc] at bL bL9
      have BW := Lib.hid (Below.refl wr.heap.size wr)
      have LT := Lib.hid lt
      clear st hl k2 k4 k5 k6 k7 k8 eL exb exo exc es jd L9 hj lt a0 a2
      go_wp2_with fail
      refine wp_region_tail_list (S := fun W => W.cell? ⟨q, 0, none⟩ = some (.slice (some ⟨B, 0, none⟩) n R.cap) ∧ W.cell? ⟨B, p, none⟩ = some (.slice (some ⟨xb, xo, none⟩) L xc)) (by simp) (by kernel_rfl) (by kernel_rfl) ⟨k0, k1⟩ (fun hHeld => ?_)
      simp only [List.dropLast_cons_cons, List.dropLast_singleton, List.getLast_cons_cons, List.getLast_singleton, List.length_cons, List.length_nil, Nat.reduceAdd]
      refine wpAnyH_take (i := 0) (v := ?_) rfl (by kernel_rfl) (by kernel_rfl) (by kernel_rfl) (fun _ _ _ h => h) (Or.inl ⟨by rfl, ?_⟩) hHeld ?_
      rotate_left
      · intro W hSw; obtain ⟨hc0, hc1⟩ := hSw; go_simp; try with_reducible rfl
      refine wpAnyH_take (i := 1) (v := ?_) rfl (by kernel_rfl) (by kernel_rfl) (by kernel_rfl) (fun _ _ _ h => h) (Or.inl ⟨by rfl, ?_⟩) hHeld ?_
      rotate_left
      · intro W hSw; obtain ⟨hc0, hc1⟩ := hSw; go_simp; try with_reducible rfl
      refine wpAnyH_take (i := 2) (v := ?_) rfl (by kernel_rfl) (by kernel_rfl) (by kernel_rfl) (fun _ _ _ h => h) (Or.inl ⟨by rfl, ?_⟩) hHeld ?_
      rotate_left
      · intro W hSw; obtain ⟨hc0, hc1⟩ := hSw; go_simp; try with_reducible rfl
      refine wpAnyH_take (i := 3) (v := ?_) rfl (by kernel_rfl) (by kernel_rfl) (by kernel_rfl) (fun _ _ _ h => h) (Or.inl ⟨by rfl, ?_⟩) hHeld ?_
      rotate_left
      · intro W hSw; obtain ⟨hc0, hc1⟩ := hSw; go_simp; try with_reducible rfl
      refine wpAnyH_take (i := 4) (v := ?_) rfl (by kernel_rfl) (by kernel_rfl) (by kernel_rfl) (fun _ _ _ h => h) (Or.inl ⟨by rfl, ?_⟩) hHeld ?_
      rotate_left
      · intro W hSw; obtain ⟨hc0, hc1⟩ := hSw; go_simp; try with_reducible rfl
      refine wpAnyH_take (i := 5) (v := ?_) rfl (by kernel_rfl) (by kernel_rfl) (by kernel_rfl) (fun _ _ _ h => h) (Or.inl ⟨by rfl, ?_⟩) hHeld ?_
      rotate_left
      · intro W hSw; obtain ⟨hc0, hc1⟩ := hSw; go_simp; try with_reducible rfl
      refine wpAnyH_take (i := 6) (v := ?_) rfl (by kernel_rfl) (by kernel_rfl) (by kernel_rfl) (fun _ _ _ h => h) (Or.inl ⟨by rfl, ?_⟩) hHeld ?_
      rotate_left
      · intro W hSw; obtain ⟨hc0, hc1⟩ := hSw; go_simp; try with_reducible rfl
      refine wpAnyH_take (i := 7) (v := ?_) rfl (by kernel_rfl) (by kernel_rfl) (by kernel_rfl) (fun _ _ _ h => h) (Or.inl ⟨by rfl, ?_⟩) hHeld ?_
      rotate_left
      · intro W hSw; obtain ⟨hc0, hc1⟩ := hSw; go_simp; try with_reducible rfl
      refine wpAnyH_take (i := 8) (v := ?_) rfl (by kernel_rfl) (by kernel_rfl) (by kernel_rfl) (fun _ _ _ h => h) (Or.inl ⟨by rfl, ?_⟩) hHeld ?_
      rotate_left
      · intro W hSw; obtain ⟨hc0, hc1⟩ := hSw; go_simp; try with_reducible rfl
      refine wpAnyH_take (i := 9) (v := ?_) rfl (by kernel_rfl) (by kernel_rfl) (by kernel_rfl) (fun _ _ _ h => h) (Or.inl ⟨by rfl, ?_⟩) hHeld ?_
      rotate_left
      · intro W hSw; obtain ⟨hc0, hc1⟩ := hSw; go_simp; try with_reducible rfl
      refine wpAnyH_take (i := 10) (v := ?_) rfl (by kernel_rfl) (by kernel_rfl) (by kernel_rfl) (fun _ _ _ h => h) (Or.inl ⟨by rfl, ?_⟩) hHeld ?_
      rotate_left
      · intro W hSw; obtain ⟨hc0, hc1⟩ := hSw; go_simp; try with_reducible rfl
      refine wpAnyH_take (i := 11) (v := ?_) rfl (by kernel_rfl) (by kernel_rfl) (by kernel_rfl) (fun _ _ _ h => h) (Or.inl ⟨by rfl, ?_⟩) hHeld ?_
      rotate_left
      · intro W hSw; obtain ⟨hc0, hc1⟩ := hSw; go_simp; try with_reducible rfl
      refine wpAnyH_take (i := 12) (v := ?_) rfl (by kernel_rfl) (by kernel_rfl) (by kernel_rfl) (fun _ _ _ h => h) (Or.inl ⟨by rfl, ?_⟩) hHeld ?_
      rotate_left
      · intro W hSw; obtain ⟨hc0, hc1⟩ := hSw; go_simp; try with_reducible rfl
      refine wpAnyH_take (i := 13) (v := ?_) rfl (by kernel_rfl) (by kernel_rfl) (by kernel_rfl) (fun _ _ _ h => h) (Or.inl ⟨by rfl, ?_⟩) hHeld ?_
      rotate_left
      · intro W hSw; obtain ⟨hc0, hc1⟩ := hSw; go_simp; try with_reducible rfl
      refine wpAnyH_take (i := 14) (v := ?_) rfl (by kernel_rfl) (by kernel_rfl) (by kernel_rfl) (fun _ _ _ h => h) (Or.inl ⟨by rfl, ?_⟩) hHeld ?_
      rotate_left
      · intro W hSw; obtain ⟨hc0, hc1⟩ := hSw; go_simp; try with_reducible rfl
      refine wpAnyH_take (i := 15) (v := ?_) rfl (by kernel_rfl) (by kernel_rfl) (by kernel_rfl) (fun _ _ _ h => h) (Or.inl ⟨by rfl, ?_⟩) hHeld ?_
      rotate_left
      · intro W hSw; obtain ⟨hc0, hc1⟩ := hSw; go_simp; try with_reducible rfl
      refine wpAnyH_take (i := 16) (v := ?_) rfl (by kernel_rfl) (by kernel_rfl) (by kernel_rfl) (fun _ _ _ h => h) (Or.inl ⟨by rfl, ?_⟩) hHeld ?_
      rotate_left
      · intro W hSw; obtain ⟨hc0, hc1⟩ := hSw; go_simp; try with_reducible rfl
      refine wpAnyH_take (i := 17) (v := ?_) rfl (by kernel_rfl) (by kernel_rfl) (by kernel_rfl) (fun _ _ _ h => h) (Or.inl ⟨by rfl, ?_⟩) hHeld ?_
      rotate_left
      · intro W hSw; obtain ⟨hc0, hc1⟩ := hSw; go_simp; try with_reducible rfl
      refine wpAnyH_take (i := 18) (v := ?_) rfl (by kernel_rfl) (by kernel_rfl) (by kernel_rfl) (fun _ _ _ h => h) (Or.inl ⟨by rfl, ?_⟩) hHeld ?_
      rotate_left
      · intro W hSw; obtain ⟨hc0, hc1⟩ := hSw; go_simp; try with_reducible rfl
      refine wpAnyH_take (i := 19) (v := ?_) rfl (by kernel_rfl) (by kernel_rfl) (by kernel_rfl) (fun _ _ _ h => h) (Or.inl ⟨by rfl, ?_⟩) hHeld ?_
      rotate_left
      · intro W hSw; obtain ⟨hc0, hc1⟩ := hSw; go_simp; try with_reducible rfl
      refine wpAnyH_take (i := 20) (v := ?_) rfl (by kernel_rfl) (by kernel_rfl) (by kernel_rfl) (fun _ _ _ h => h) (Or.inl ⟨by rfl, ?_⟩) hHeld ?_
      rotate_left
      · intro W hSw; obtain ⟨hc0, hc1⟩ := hSw; go_simp; try with_reducible rfl
      refine wpAnyH_ready (rs := [21]) (by kernel_rfl) (by simp) ?_
      refine AllReadyH.cons rfl (fun K hK => ?_) AllReadyH.nil
      go_simp
      go_at_call 28
      with_reducible refine (HP.out _ BW.out.drew).mono ?_
      intro e w4 hi
      obtain ⟨c2, rfl, y0, y1, y2, el, did⟩ := FACT.out _ BW.out.drew e w4 hi
      have DD := Lib.hid (And.intro el did)
      refine hK.out _ _ ⟨y0, y1⟩ (fun hHeld2 => ?_)
      clear hK K hHeld hi did el
      refine wpAnyH_take (i := 22) (v := ?_) rfl (by kernel_rfl) (by kernel_rfl) (by kernel_rfl) (fun _ _ _ h => h) (Or.inl ⟨by rfl, ?_⟩) hHeld2 ?_
      rotate_left
      · intro W hSw; obtain ⟨hc0, hc1⟩ := hSw; go_simp; try with_reducible rfl
      refine wpAnyH_done (by kernel_rfl) ?_ _
      refine behind_normal (wpOp_step rfl (fun K hK => ?_))
      go_simp
      refine hK _ _ ?_
      clear hK K hHeld2
      go_wp2_with fail
      go_roundw
      case rel => exact ⟨j + 1, c2, by have := LT.out; omega, by go_num, DD.out.1, DD.out.2⟩
      case measure => have := LT.out; simp [RowKit.intOf]; omega
    · have lt' : (D : Int) ≤ (j : Int) := by omega
      have ej : j = D := by omega
      subst ej
      have el : c'.l = c.l ++ d.l := by rw [hl, List.take_of_length_le (by rw [← NUM.out.2.2.2.1]; exact Nat.le_refl _)]
      have ckd : CkAt wr d := st.lies.ck d (by simp)
      have ckd' : Sl wr x y z (d.l.map Value.string) := by
        have := ckd
        unfold CkAt at this
        rwa [← NUM.out.2.2.2.2.1, ← NUM.out.2.2.2.2.2.1, ← NUM.out.2.2.2.2.2.2.1] at this
      have clr := clear_any ckd' (n := j) dz z
      obtain ⟨dn, edn⟩ : ∃ dn : Ck, dn = ⟨d.b, d.off, d.cap, List.replicate j ⟨#[]⟩⟩ := ⟨_, rfl⟩
      obtain ⟨w5, ew5⟩ : ∃ w5, w5 = wr.setCells x y (List.replicate j (.string ⟨#[]⟩)) := ⟨_, rfl⟩
      have t5 : Turn d.rng wr w5 := by
        rw [ew5]
        have := Turn.lay x y z 0 (List.replicate j (.string ⟨#[]⟩)) wr (by rw [List.length_replicate]; omega)
        unfold Ck.rng
        rw [← NUM.out.2.2.2.2.1, ← NUM.out.2.2.2.2.2.1, ← NUM.out.2.2.2.2.2.2.1]
        exact this
      have s5 : CkAt w5 dn := by
        have := ckd'.lay 0 (List.replicate j (.string ⟨#[]⟩)) ((List.replicate j (⟨#[]⟩ : ByteArray)).map Value.string) (fun v hv => by rw [List.eq_of_mem_replicate hv]; rfl) (by rw [List.length_replicate]; omega) (by simp; omega) (fun t v ht => .inl ⟨Nat.zero_le _, by rw [Nat.sub_zero]; rw [List.map_replicate] at ht; exact ht⟩)
        rw [Nat.add_zero, ← ew5] at this
        rw [edn]
        unfold CkAt
        rw [← NUM.out.2.2.2.2.1, ← NUM.out.2.2.2.2.2.1, ← NUM.out.2.2.2.2.2.2.1]
        exact this
      have st5 := st.lies.swap (pre := pre ++ [c']) (c := d) (c' := dn) (post := post) (by simp) t5 s5 (by rw [edn]; unfold ckv; simp only [List.length_replicate]; rw [NUM.out.2.2.2.1]) (by rw [edn]) (fun a ha => by rw [edn] at ha; exact ha)
      have ecs : pre ++ [c'] ++ dn :: post = pre ++ c' :: dn :: post := by simp
      rw [ecs] at st5
      have len5 : (pre ++ c' :: dn :: post).length = n := by
        have h1 := NUM.out.2.1
        rw [E.out] at h1
        rw [h1]; simp
      have h5 := st5.lies.head
      have h5 : w5.cell? ⟨q, 0, none⟩ = some (hdv R.B (pre ++ c' :: dn :: post).length R.cap) := h5
      rw [EB.out, len5] at h5
      have h5 : w5.cell? ⟨q, 0, none⟩ = some (.slice (some ⟨B, 0, none⟩) n R.cap) := h5
      have f5 := st5.lies.free 0
      have l5 := st5.lies.lt
      have sB5 : Sl w5 B 0 R.cap ((pre ++ c' :: dn :: post).map ckv) := st5.lies.some_ B EB.out
      have call : Calls Try.prog 37 #[.slice (some ⟨B, 0, none⟩) n R.cap, .int .i64 (p1 : Int), .int .i64 ((p : Int) + 2)] w5 fun e w' => e = .returned (.slice (some ⟨B, 0, none⟩) (n - 1) R.cap) ∧ Sl w' B 0 R.cap (((pre ++ c' :: dn :: post).map ckv).eraseIdx p1) ∧ Turn (Rng B 0 R.cap) w5 w' := by
        have := delC.any sB5 p1 (by rw [List.length_map, len5]; exact NUM.out.2.2.2.2.2.2.2)
        rw [List.length_map, len5, show (p1 : Int) + 1 = (p : Int) + 2 by omega] at this
        exact this
      have FIN : Hid (∀ w6, Sl w6 B 0 R.cap (((pre ++ c' :: dn :: post).map ckv).eraseIdx p1) → Turn (Rng B 0 R.cap) w5 w6 → w6.cell? ⟨q, 0, none⟩ = some (.slice (some ⟨B, 0, none⟩) n R.cap) ∧ w6.frozen? ⟨q, 0, none⟩ = false ∧ Step w q R (w6.setCell ⟨q, 0, none⟩ (.slice (some ⟨B, 0, none⟩) (n - 1) R.cap)) { R with cs := pre ++ c' :: post }) := by
        intro w6 s6 t6
        refine ⟨by rw [t6.cell _ l5 (fun a => Bq a.1.symm)]; exact h5, by rw [t6.frozen _ l5]; exact f5, ?_⟩
        have k := st5.lies.deleted (B := B) (k := p1) EB.out (by rw [len5]; exact NUM.out.2.2.2.2.2.2.2) t6 s6
        have er : (pre ++ c' :: dn :: post).eraseIdx p1 = pre ++ c' :: post := by
          have h1 := erase_mid (pre ++ [c']) post dn
          rw [List.length_append] at h1
          have h2 : (pre ++ [c'] ++ dn :: post).eraseIdx p1 = pre ++ [c'] ++ post := by rw [NUM.out.2.2.1, NUM.out.1]; exact h1
          simpa using h2
        have k2 : Step w5 q { R with cs := pre ++ c' :: dn :: post } (w6.setCell ⟨q, 0, none⟩ (hdv (some B) ((pre ++ c' :: dn :: post).length - 1) R.cap)) { R with cs := (pre ++ c' :: dn :: post).eraseIdx p1 } := k
        rw [er, len5] at k2
        exact (st.trans st5).trans k2
      have CALL := Lib.hid call
      have EL := Lib.hid el
      have W5 := Lib.hid ew5
      rw [ew5] at h5 f5
      rw [ew5] at CALL
      have pw2 : IntKind.i64.wrap ((p : Int) + 2) = (p : Int) + 2 := by rw [IntKind.wrap_i64]; omega
      clear st hl k1 k3 k4 k5 k6 k7 k8 eL ckd ckd' edn t5 s5 st5 ecs len5 sB5 call el ew5 l5 bL bL9 a0 a2 hj
      go_wp2_with fail
      go_at_call 37
      with_reducible refine CALL.out.mono ?_
      rintro e w6 ⟨rfl, s6, t6⟩
      rw [← W5.out] at t6
      obtain ⟨x0, x1, x2⟩ := FIN.out w6 s6 t6
      have X := Lib.hid x2
      clear s6 t6 x2
      go_wp2_with fail
      go_end0
      exact ⟨rfl, c', EL.out, X.out⟩
end Go.Proofs.Yteghokakjonblaa
