/- Package chunk: Remove. -/
import Derived.Test.YteghokakjonblaaChJoin
import Derived.Test.YteghokakjonblaaChDelS
namespace Go.Proofs.Yteghokakjonblaa
open Go.RowKit Go.Lib
set_option linter.unusedVariables false
theorem erase_flat (a b l : List ByteArray) (k : Nat) (h : k < l.length) : (a ++ (l ++ b)).eraseIdx (a.length + k) = a ++ (l.eraseIdx k ++ b) := by
  rw [List.eraseIdx_append_of_length_le (by omega), Nat.add_sub_cancel_left, List.eraseIdx_append_of_lt_length h]
/-- The texts left when the one at a place is taken out. -/
def remOf (l : List ByteArray) (i : Int) : List ByteArray := if there l.length i = true then l.eraseIdx (front l.length i).toNat else l
set_option maxHeartbeats 4000000 in
theorem rem_none (w : World) (q : Nat) (R : Ch) (h : Fine w q R) (hs : R.n ≤ 1048576) (i : Int) (i0 : -9223372036854775808 ≤ i) (i1 : i ≤ 9223372036854775807) (hth : there R.n i = false) :
    Calls Try.prog 20 #[.pointer (some ⟨q, 0, none⟩), .int .i64 i] w fun e w' => e = .returned (.tuple #[.string ⟨#[]⟩, .bool false]) ∧ Below w.heap.size w w' := by
  have HP := Lib.hid (place_any w q R h.lies i i0 i1 (by omega))
  rw [hth] at HP
  clear hth h
  obtain ⟨f, hf⟩ : ∃ f, f = front R.n i := ⟨_, rfl⟩
  rw [← hf] at HP
  clear hf hs
  go_enter Try.func20, Try.ntmps20
  go_wp2_with fail
  go_at_call 30
  refine HP.out.mono ?_
  rintro e w1 ⟨rfl, hb⟩
  have HB := Lib.hid hb
  clear hb
  go_wp2_with fail
  go_ret2
  exact ⟨rfl, HB.out⟩
set_option maxHeartbeats 4000000 in
theorem rem_some (w : World) (q : Nat) (R : Ch) (h : Fine w q R) (hs : R.n ≤ 1048576) (i : Int) (i0 : -9223372036854775808 ≤ i) (i1 : i ≤ 9223372036854775807) (k : Nat) (hk : front R.n i = (k : Int)) (hlt : k < R.n) (hth : there R.n i = true) (s : ByteArray) (hse : (flat R.cs)[k]? = some s) :
    Calls Try.prog 20 #[.pointer (some ⟨q, 0, none⟩), .int .i64 i] w fun e w' => e = .returned (.tuple #[.string s, .bool true]) ∧ Did w q R w' ((flat R.cs).eraseIdx k) := by
  have HP := Lib.hid (place_any w q R h.lies i i0 i1 (by omega))
  have H := Lib.hid h
  have HK := Lib.hid (And.intro hlt (And.intro hse hs))
  rw [hth, hk] at HP
  obtain ⟨n, en⟩ : ∃ n, n = R.n := ⟨_, rfl⟩
  have EN := Lib.hid en
  have n1 : (n : Int) ≤ 1048576 := by omega
  have n0 : (0 : Int) < (n : Int) := by omega
  clear hth hk hlt hse h hs en
  go_enter Try.func20, Try.ntmps20
  go_wp2_with fail
  go_at_call 30
  refine HP.out.mono ?_
  rintro e w1 ⟨rfl, hb⟩
  have HB := Lib.hid hb
  clear hb
  go_wp2_with fail
  go_at_call 26
  refine (find_any w1 q R (H.out.lies.below HB.out) H.out.num (by have := HK.out.2.2; omega) (fun e => by have := HK.out.1; rw [H.out.num, e] at this; exact absurd this (Nat.not_lt_zero _)) k (Nat.le_of_lt HK.out.1)).mono ?_
  rintro e w2 ⟨hb2, pre, c, post, at_, rfl, fo⟩
  have L2 := (H.out.lies.below HB.out).below hb2
  obtain ⟨B, eB, sp⟩ := L2.spot fo.1
  have lt := fo.2.2.2 HK.out.1
  have get := found_get fo lt
  have es : c.l[at_] = s := by
    have := HK.out.2.1
    rw [get] at this
    injection this
  have c0 := sp.head
  have c1 := sp.slot
  have c2 := sp.ck.get at_ (.string s) (by simp [lt, es])
  have d2 := L2.num
  rw [← EN.out] at d2
  have b0 := sp.len
  have b1 := sp.big
  have b2 := sp.ck.len
  have b3 := sp.ck.big
  have p9 := sp.lt
  rw [List.length_map] at b2
  have fB := sp.fB pre.length
  have Bq := sp.Bq
  have cq := sp.cq
  have cB := sp.cB
  have fq1 := L2.free 1
  have lq := L2.lt
  have lB := (L2.some_ B eB).lt
  have ckc := sp.ck
  obtain ⟨p, ep⟩ : ∃ p, p = pre.length := ⟨_, rfl⟩
  obtain ⟨m, em⟩ : ∃ m, m = R.cs.length := ⟨_, rfl⟩
  obtain ⟨L, eL⟩ : ∃ L, L = c.l.length := ⟨_, rfl⟩
  rw [← ep, ← eL] at c1
  rw [← em] at c0 b0 p9
  rw [← eL] at b2
  rw [← ep] at fB p9 ⊢
  have p0 : (0 : Int) ≤ (p : Int) := by omega
  have p1 : (p : Int) < (m : Int) := by omega
  have a0 : (0 : Int) ≤ (at_ : Int) := by omega
  have a1 : (at_ : Int) < (L : Int) := by omega
  have aw : IntKind.i64.wrap ((at_ : Int) + 1) = (at_ : Int) + 1 := by rw [IntKind.wrap_i64]; omega
  have call : Calls Try.prog 31 #[.slice (some ⟨c.b, c.off, none⟩) L c.cap, .int .i64 (at_ : Int), .int .i64 ((at_ : Int) + 1)] w2.drew fun e w' => e = .returned (.slice (some ⟨c.b, c.off, none⟩) (L - 1) c.cap) ∧ Sl w' c.b c.off c.cap ((c.l.map Value.string).eraseIdx at_) ∧ Turn (Rng c.b c.off c.cap) w2.drew w' := by
    have := delS.any ckc.drew at_ (by rw [List.length_map]; exact lt)
    rwa [List.length_map, ← eL] at this
  have nice := H.out.nice
  rw [fo.1, lens_mid] at nice
  obtain ⟨c', ec'⟩ : ∃ c' : Ck, c' = ⟨c.b, c.off, c.cap, c.l.eraseIdx at_⟩ := ⟨_, rfl⟩
  have len' : c'.l.length = L - 1 := by rw [ec', eL]; exact List.length_eraseIdx_of_lt lt
  have FACT : Hid (∀ w', Sl w' c.b c.off c.cap ((c.l.map Value.string).eraseIdx at_) → Turn (Rng c.b c.off c.cap) w2.drew w' → w'.cell? ⟨q, 0, none⟩ = some (.slice (some ⟨B, 0, none⟩) m R.cap) ∧ w'.cell? ⟨B, p, none⟩ = some (.slice (some ⟨c.b, c.off, none⟩) L c.cap) ∧ w'.cell? ⟨q, 1, none⟩ = some (.int .i64 (n : Int)) ∧ w'.frozen? ⟨B, p, none⟩ = false ∧ w'.frozen? ⟨q, 1, none⟩ = false ∧
      Step w q R ((w'.setCell ⟨B, p, none⟩ (.slice (some ⟨c.b, c.off, none⟩) (L - 1) c.cap)).setCell ⟨q, 1, none⟩ (.int .i64 ((n : Int) - 1))) { R with cs := pre ++ c' :: post, n := n - 1 }) := by
    intro w' sl t
    have t' : Turn c.rng w2 w' := (Turn.of_below (D := c.rng) ((Below.refl _ w2).drew)).trans t fun a x => .inl x
    have ck' : CkAt w' c' := by
      rw [map_erase] at sl
      rw [ec']; exact sl
    have stp := L2.step fo.1 eB t' ck' (.inl ⟨by rw [ec'], fun a ha => by rw [ec'] at ha; exact ha⟩)
    have cv : ckv c' = .slice (some ⟨c.b, c.off, none⟩) (L - 1) c.cap := by
      unfold ckv; rw [len', ec']
    rw [cv, ← ep] at stp
    have stc := ((Step.refl H.out.lies (below_then HB.out hb2)).trans stp).count (n - 1)
    rw [show ((n - 1 : Nat) : Int) = (n : Int) - 1 by omega] at stc
    refine ⟨?_, ?_, ?_, ?_, ?_, stc⟩
    · rw [t'.cell _ lq (fun x => cq x.1.symm)]; exact c0
    · rw [t'.cell _ lB (fun x => cB x.1.symm)]; exact c1
    · rw [t'.cell _ lq (fun x => cq x.1.symm)]; exact d2
    · rw [t'.frozen _ lB]; exact fB
    · rw [t'.frozen _ lq]; exact fq1
  have CALL := Lib.hid call
  have FO := Lib.hid (And.intro fo (And.intro nice (And.intro ep (And.intro eL (And.intro ec' (And.intro len' lt))))))
  obtain ⟨xb, exb⟩ : ∃ x, x = c.b := ⟨_, rfl⟩
  obtain ⟨xo, exo⟩ : ∃ x, x = c.off := ⟨_, rfl⟩
  obtain ⟨xc, exc⟩ : ∃ x, x = c.cap := ⟨_, rfl⟩
  rw [← exb, ← exo, ← exc] at CALL FACT c1
  rw [← exb, ← exo] at c2
  rw [← exc] at b2 b3
  clear L2 sp fo hb2 get es fq1 lq lB ckc ep em eL call nice ec' len' exb exo exc cq cB eB
  go_wp2_with fail
  refine wp_region_tail_list (S := fun W => W.cell? ⟨q, 0, none⟩ = some (.slice (some ⟨B, 0, none⟩) m R.cap) ∧ W.cell? ⟨B, p, none⟩ = some (.slice (some ⟨xb, xo, none⟩) L xc)) (by simp) (by kernel_rfl) (by kernel_rfl) ⟨c0, c1⟩ (fun hHeld => ?_)
  simp only [List.dropLast_cons_cons, List.dropLast_singleton, List.getLast_cons_cons, List.getLast_singleton, List.length_cons, List.length_nil, Nat.reduceAdd]
  refine wpAnyH_take (i := 0) (v := ?_) rfl (by kernel_rfl) (by kernel_rfl) (by kernel_rfl) (fun _ _ _ h => h) (Or.inl ⟨by rfl, ?_⟩) hHeld ?_
  rotate_left
  · intro W hSw; obtain ⟨hc0, hc1⟩ := hSw; go_simp; try with_reducible rfl
  refine wpAnyH_take (i := 1) (v := ?_) rfl (by kernel_rfl) (by kernel_rfl) (by kernel_rfl) (fun _ _ _ h => h) (Or.inl ⟨by rfl, ?_⟩) hHeld ?_
  rotate_left
  · intro W hSw; obtain ⟨hc0, hc1⟩ := hSw; go_simp; try with_reducible rfl
  refine wpAnyH_take (i := 2) (v := ?_) rfl (by kernel_rfl) (by kernel_rfl) (by kernel_rfl) (fun _ _ _ h => h) (Or.inl ⟨by rfl, ?_⟩) hHeld ?_
  rotate_left
  · intro W hSw; obtain ⟨hc0, hc1⟩ := hSw; go_simp; try with_reducible rfl
  refine wpAnyH_take (i := 3) (v := ?_) rfl (by kernel_rfl) (by kernel_rfl) (by kernel_rfl) (fun _ _ _ h => h) (Or.inl ⟨by rfl, ?_⟩) hHeld ?_
  rotate_left
  · intro W hSw; obtain ⟨hc0, hc1⟩ := hSw; go_simp; try with_reducible rfl
  refine wpAnyH_take (i := 4) (v := ?_) rfl (by kernel_rfl) (by kernel_rfl) (by kernel_rfl) (fun _ _ _ h => h) (Or.inl ⟨by rfl, ?_⟩) hHeld ?_
  rotate_left
  · intro W hSw; obtain ⟨hc0, hc1⟩ := hSw; go_simp; try with_reducible rfl
  refine wpAnyH_take (i := 5) (v := ?_) rfl (by kernel_rfl) (by kernel_rfl) (by kernel_rfl) (fun _ _ _ h => h) (Or.inl ⟨by rfl, ?_⟩) hHeld ?_
  rotate_left
  · intro W hSw; obtain ⟨hc0, hc1⟩ := hSw; go_simp; try with_reducible rfl
  refine wpAnyH_take (i := 6) (v := ?_) rfl (by kernel_rfl) (by kernel_rfl) (by kernel_rfl) (fun _ _ _ h => h) (Or.inl ⟨by rfl, ?_⟩) hHeld ?_
  rotate_left
  · intro W hSw; obtain ⟨hc0, hc1⟩ := hSw; go_simp; try with_reducible rfl
  refine wpAnyH_take (i := 7) (v := ?_) rfl (by kernel_rfl) (by kernel_rfl) (by kernel_rfl) (fun _ _ _ h => h) (Or.inl ⟨by rfl, ?_⟩) hHeld ?_
  rotate_left
  · intro W hSw; obtain ⟨hc0, hc1⟩ := hSw; go_simp; try with_reducible rfl
  refine wpAnyH_take (i := 8) (v := ?_) rfl (by kernel_rfl) (by kernel_rfl) (by kernel_rfl) (fun _ _ _ h => h) (Or.inl ⟨by rfl, ?_⟩) hHeld ?_
  rotate_left
  · intro W hSw; obtain ⟨hc0, hc1⟩ := hSw; go_simp; try with_reducible rfl
  refine wpAnyH_take (i := 9) (v := ?_) rfl (by kernel_rfl) (by kernel_rfl) (by kernel_rfl) (fun _ _ _ h => h) (Or.inl ⟨by rfl, ?_⟩) hHeld ?_
  rotate_left
  · intro W hSw; obtain ⟨hc0, hc1⟩ := hSw; go_simp; try with_reducible rfl
  refine wpAnyH_take (i := 10) (v := ?_) rfl (by kernel_rfl) (by kernel_rfl) (by kernel_rfl) (fun _ _ _ h => h) (Or.inl ⟨by rfl, ?_⟩) hHeld ?_
  rotate_left
  · intro W hSw; obtain ⟨hc0, hc1⟩ := hSw; go_simp; try with_reducible rfl
  refine wpAnyH_take (i := 11) (v := ?_) rfl (by kernel_rfl) (by kernel_rfl) (by kernel_rfl) (fun _ _ _ h => h) (Or.inl ⟨by rfl, ?_⟩) hHeld ?_
  rotate_left
  · intro W hSw; obtain ⟨hc0, hc1⟩ := hSw; go_simp; try with_reducible rfl
  refine wpAnyH_take (i := 12) (v := ?_) rfl (by kernel_rfl) (by kernel_rfl) (by kernel_rfl) (fun _ _ _ h => h) (Or.inl ⟨by rfl, ?_⟩) hHeld ?_
  rotate_left
  · intro W hSw; obtain ⟨hc0, hc1⟩ := hSw; go_simp; try with_reducible rfl
  refine wpAnyH_take (i := 13) (v := ?_) rfl (by kernel_rfl) (by kernel_rfl) (by kernel_rfl) (fun _ _ _ h => h) (Or.inl ⟨by rfl, ?_⟩) hHeld ?_
  rotate_left
  · intro W hSw; obtain ⟨hc0, hc1⟩ := hSw; go_simp; try with_reducible rfl
  refine wpAnyH_take (i := 14) (v := ?_) rfl (by kernel_rfl) (by kernel_rfl) (by kernel_rfl) (fun _ _ _ h => h) (Or.inl ⟨by rfl, ?_⟩) hHeld ?_
  rotate_left
  · intro W hSw; obtain ⟨hc0, hc1⟩ := hSw; go_simp; try with_reducible rfl
  refine wpAnyH_ready (rs := [15]) (by kernel_rfl) (by simp) ?_
  refine AllReadyH.cons rfl (fun K hK => ?_) AllReadyH.nil
  go_simp
  go_at_call 31
  with_reducible refine CALL.out.mono ?_
  rintro e w4 ⟨rfl, sl, tt⟩
  obtain ⟨y0, y1, y2, y3, y4, st⟩ := FACT.out w4 sl tt
  have ST := Lib.hid st
  refine hK.out _ _ ⟨y0, y1⟩ (fun hHeld2 => ?_)
  clear hK K hHeld sl tt st
  refine wpAnyH_take (i := 16) (v := ?_) rfl (by kernel_rfl) (by kernel_rfl) (by kernel_rfl) (fun _ _ _ h => h) (Or.inl ⟨by rfl, ?_⟩) hHeld2 ?_
  rotate_left
  · intro W hSw; obtain ⟨hc0, hc1⟩ := hSw; go_simp; try with_reducible rfl
  refine wpAnyH_done (by kernel_rfl) ?_ _
  refine behind_normal (wpOp_step rfl (fun K hK => ?_))
  go_simp
  refine hK _ _ ?_
  clear hK K hHeld2
  have JN := Lib.hid (join_any _ q _ ST.out.lies (pre := pre) (c := c') (post := post) rfl (by rw [FO.out.2.2.2.2.2.1, FO.out.2.2.2.1]; have := FO.out.2.2.2.2.2.2; rw [Nat.sub_add_cancel (by omega)]; exact FO.out.2.1))
  rw [← FO.out.2.2.1] at JN
  go_wp2_with fail
  go_at_call 32
  with_reducible refine JN.out.mono ?_
  rintro e w6 ⟨rfl, td⟩
  have TD := Lib.hid td
  clear td
  go_wp2_with fail
  go_ret2
  obtain ⟨R', st', en', ef', ni'⟩ := TD.out
  obtain ⟨fo, nice, ep, eL, ec', len', lt⟩ := FO.out
  have fl : flat (pre ++ c' :: post) = (flat R.cs).eraseIdx k := by
    rw [flat_mid, ec', fo.1, flat_mid, fo.2.1, erase_flat _ _ _ _ lt]
  have ef2 : flat R'.cs = (flat R.cs).eraseIdx k := by rw [ef']; exact fl
  refine ⟨rfl, R', ST.out.trans st', ⟨st'.lies, ?_, ni'⟩, ef2⟩
  rw [en', ef2, List.length_eraseIdx_of_lt (by rw [← H.out.num]; exact HK.out.1), ← H.out.num, ← EN.out]
theorem rem_any (w : World) (q : Nat) (R : Ch) (h : Fine w q R) (hs : R.n ≤ 1048576) (i : Int) (i0 : -9223372036854775808 ≤ i) (i1 : i ≤ 9223372036854775807) :
    Calls Try.prog 20 #[.pointer (some ⟨q, 0, none⟩), .int .i64 i] w fun e w' => e = .returned (.tuple #[.string (atOf (flat R.cs) i), .bool (there (flat R.cs).length i)]) ∧ Did w q R w' (remOf (flat R.cs) i) := by
  unfold remOf atOf
  rw [← h.num]
  cases hth : there R.n i
  · rw [if_neg (by simp), if_neg (by simp)]
    refine (rem_none w q R h hs i i0 i1 hth).mono ?_
    rintro e w' ⟨rfl, hb⟩
    exact ⟨rfl, Did.none h hb⟩
  · obtain ⟨k, hk, hlt⟩ := there_is hth
    rw [if_pos rfl, if_pos rfl, hk, Int.toNat_natCast]
    have hx : k < (flat R.cs).length := by rw [← h.num]; exact hlt
    refine (rem_some w q R h hs i i0 i1 k hk hlt hth (flat R.cs)[k] (List.getElem?_eq_getElem hx)).mono ?_
    rintro e w' ⟨rfl, hd⟩
    exact ⟨by rw [List.getElem?_eq_getElem hx]; rfl, hd⟩
end Go.Proofs.Yteghokakjonblaa
