/- Package chunk: Insert. -/
import Derived.Test.YteghokakjonblaaChRoom
import Derived.Test.YteghokakjonblaaTail
namespace Go.Proofs.Yteghokakjonblaa
open Go.RowKit Go.Lib
set_option linter.unusedVariables false
/-- A row turned into one with these texts. -/
def Did (w : World) (q : Nat) (R : Ch) (w' : World) (l : List ByteArray) : Prop := ∃ R', Step w q R w' R' ∧ Fine w' q R' ∧ flat R'.cs = l
theorem Did.none {w w' : World} {q : Nat} {R : Ch} (h : Fine w q R) (b : Below w.heap.size w w') : Did w q R w' (flat R.cs) := ⟨R, Step.refl h.lies b, ⟨h.lies.below b, h.num, h.nice⟩, rfl⟩
theorem run_nil_row (W : World) (q : Nat) : (binOp .eql 25 (.pointer (some ⟨q, 0, none⟩)) (.pointer none)).run Try.prog W = .ok (.bool false) W := by kernel_rfl
/-- The slot of a chunk turned: the step. -/
theorem Lies.step {w : World} {q : Nat} {R : Ch} (h : Lies w q R) {pre post : List Ck} {c c' : Ck} {B : Nat} (e : R.cs = pre ++ c :: post) (eB : R.B = some B) {w1 : World} (t : Turn c.rng w w1) (k : CkAt w1 c') (hr : (c'.b = c.b ∧ ∀ a, c'.rng a → c.rng a) ∨ w.heap.size ≤ c'.b) :
    Step w q R (w1.setCell ⟨B, pre.length, none⟩ (ckv c')) { R with cs := pre ++ c' :: post } := by
  obtain ⟨l, t⟩ := h.setChunk e eB t k hr
  refine ⟨l, t.wide fun a x => ?_, fun k hk => ?_⟩
  · rcases x with x | x
    · exact .inr (.inl (by rw [x]; exact eB))
    · exact .inr (.inr ⟨c, by rw [e]; simp, x.symm⟩)
  · rcases hk with x | x | ⟨d, hd, x⟩
    · exact .inl (.inl x)
    · exact .inl (.inr (.inl x))
    · rcases List.mem_append.1 hd with y | y
      · exact .inl (.inr (.inr ⟨d, by rw [e]; simp [y], x⟩))
      · rcases List.mem_cons.1 y with rfl | y
        · rcases hr with ⟨z, _⟩ | z
          · exact .inl (.inr (.inr ⟨c, by rw [e]; simp, by rw [← z]; exact x⟩))
          · exact .inr (by rw [← x]; exact z)
        · exact .inl (.inr (.inr ⟨d, by rw [e]; simp [y], x⟩))
theorem Step.count {w w1 : World} {q : Nat} {R R1 : Ch} (h : Step w q R w1 R1) (m : Nat) : Step w q R (w1.setCell ⟨q, 1, none⟩ (.int .i64 (m : Int))) { R1 with n := m } := by
  obtain ⟨l, t⟩ := h.lies.count m
  refine ⟨l, h.turn.trans t fun a x => .inl (.inl x), fun k hk => h.sub k hk⟩
theorem PutIn.rng {w w' : World} {c : Ck} {k : Nat} {s : ByteArray} {c' : Ck} (h : (c'.b = c.b ∧ c'.off = c.off ∧ c'.cap = c.cap) ∨ w.heap.size ≤ c'.b) : (c'.b = c.b ∧ ∀ a, c'.rng a → c.rng a) ∨ w.heap.size ≤ c'.b := by
  rcases h with ⟨a, b, d⟩ | h
  · refine .inl ⟨a, fun x hx => ?_⟩
    unfold Ck.rng at hx ⊢
    rwa [a, b, d] at hx
  · exact .inr h
theorem insAt_mid (a b l : List ByteArray) (k : Nat) (s : ByteArray) (h : k ≤ l.length) : insAt (a ++ (l ++ b)) (a.length + k) s = a ++ (insAt l k s ++ b) := by
  unfold insAt
  rw [List.take_append, List.drop_append, List.take_of_length_le (by omega : a.length ≤ a.length + k), List.drop_eq_nil_of_le (by omega : a.length ≤ a.length + k), Nat.add_sub_cancel_left, List.take_append_of_le_length h, List.drop_append_of_le_length h]
  simp
theorem insAt_len (l : List ByteArray) (k : Nat) (s : ByteArray) (h : k ≤ l.length) : (insAt l k s).length = l.length + 1 := by unfold insAt; simp; omega
/-- There is such a place to insert at. -/
def fits (n : Nat) (i : Int) : Bool := decide (0 ≤ i ∧ i ≤ n)
set_option maxHeartbeats 4000000 in
theorem ins_none (w : World) (q : Nat) (R : Ch) (h : Fine w q R) (hs : R.n ≤ 1048576) (i : Int) (i0 : -9223372036854775808 ≤ i) (i1 : i ≤ 9223372036854775807) (s : ByteArray) (hf : fits R.n i = false) :
    Calls Try.prog 19 #[.pointer (some ⟨q, 0, none⟩), .int .i64 i, .string s] w fun e w' => e = .returned (.bool false) ∧ Below w.heap.size w w' := by
  have c1 := h.lies.num
  have q0 := run_nil_row
  obtain ⟨n, en⟩ : ∃ n, n = R.n := ⟨_, rfl⟩
  rw [← en] at c1 hf hs
  clear h en
  have n1 : (n : Int) ≤ 1048576 := by omega
  unfold fits at hf
  have hf' := of_decide_eq_false hf
  by_cases a : i < 0
  · clear hf hf'
    go_enter Try.func19, Try.ntmps19
    go_wp2_with fail
    go_ret
    exact ⟨rfl, Below.refl _ _⟩
  · have a0 : 0 ≤ i := by omega
    have b : (n : Int) < i := by
      by_cases k : i ≤ (n : Int)
      · exact absurd ⟨a0, k⟩ hf'
      · omega
    clear hf hf'
    go_enter Try.func19, Try.ntmps19
    go_wp2_with fail
    go_ret
    exact ⟨rfl, Below.refl _ _⟩
set_option maxHeartbeats 4000000 in
theorem ins_some (w : World) (q : Nat) (R : Ch) (h : Fine w q R) (hs : R.n ≤ 1048575) (i : Nat) (hi : i ≤ R.n) (s : ByteArray) (s9 : s.size ≤ 281474976710656) :
    Calls Try.prog 19 #[.pointer (some ⟨q, 0, none⟩), .int .i64 (i : Int), .string s] w fun e w' => e = .returned (.bool true) ∧ Did w q R w' (insAt (flat R.cs) i s) := by
  have c1 := h.lies.num
  have q0 := run_nil_row
  have H := Lib.hid h
  have HR := Lib.hid (room_any w q R h (by omega) i hi)
  have HC : Hid (∀ W, Calls Try.prog 29 #[.string s] W fun e w' => e = .returned (.string s) ∧ Below W.heap.size W w') := fun W => clone_any s W s9
  obtain ⟨n, en⟩ : ∃ n, n = R.n := ⟨_, rfl⟩
  rw [← en] at c1 hs hi
  have EN := Lib.hid en
  have n1 : (n : Int) ≤ 1048575 := by omega
  have i0 : (0 : Int) ≤ (i : Int) := by omega
  have i1 : (i : Int) ≤ (n : Int) := by omega
  clear h en s9 hs hi
  go_enter Try.func19, Try.ntmps19
  go_wp2_with fail
  go_at_call 27
  refine HR.out.mono ?_
  rintro e w2 ⟨pre, c, post, k, R2, rfl, st, en2, e2, ef, ei, ek, nice⟩
  obtain ⟨B, eB, sp⟩ := st.lies.spot e2
  have d0 := sp.head
  have d1 := sp.slot
  have d2 := st.lies.num
  rw [en2, ← EN.out] at d2
  have b0 := sp.len
  have b1 := sp.big
  have p2 := sp.lt
  have fB := sp.fB pre.length
  have Bq := sp.Bq
  have cq := sp.cq
  have cB := sp.cB
  obtain ⟨p, ep⟩ : ∃ p, p = pre.length := ⟨_, rfl⟩
  obtain ⟨m, em⟩ : ∃ m, m = R2.cs.length := ⟨_, rfl⟩
  obtain ⟨L, eL⟩ : ∃ L, L = c.l.length := ⟨_, rfl⟩
  rw [← ep, ← eL] at d1
  rw [← em] at d0 b0 p2
  rw [← ep] at p2 fB ⊢
  have p0 : (0 : Int) ≤ (p : Int) := by omega
  have p1 : (p : Int) < (m : Int) := by omega
  have cl := sp.ck.len
  have cb := sp.ck.big
  rw [List.length_map, ← eL] at cl
  have L9 := (nice.all (c.l.length + 1) (by simp)).2
  have fq1 := st.lies.free 1
  have lq := st.lies.lt
  have lB := (st.lies.some_ B eB).lt
  have ckc := sp.ck
  have HP : Hid (∀ W, Below w2.heap.size w2 W → Calls Try.prog 28 #[.slice (some ⟨c.b, c.off, none⟩) L c.cap, .int .i64 (k : Int), .string s] W (PutIn W c k s)) := fun W hb => by
    have := put_any W c (ckc.below hb) k ek (by omega) s
    unfold ckv at this
    rwa [← eL] at this
  have KEEP : Hid (∀ W, Below w2.heap.size w2 W → W.cell? ⟨q, 0, none⟩ = some (.slice (some ⟨B, 0, none⟩) m R2.cap) ∧ W.cell? ⟨B, p, none⟩ = some (.slice (some ⟨c.b, c.off, none⟩) L c.cap) ∧ W.cell? ⟨q, 1, none⟩ = some (.int .i64 (n : Int)) ∧ W.frozen? ⟨B, p, none⟩ = false ∧ W.frozen? ⟨q, 1, none⟩ = false) := fun W hb =>
    ⟨by rw [hb.cell lq]; exact d0, by rw [hb.cell lB]; exact d1, by rw [hb.cell lq]; exact d2, by rw [World.frozen?_of_block (hb.block _ lB)]; exact fB, by rw [World.frozen?_of_block (hb.block _ lq)]; exact fq1⟩
  have FACT : Hid (∀ W, Below w2.heap.size w2 W → ∀ e w', PutIn W c k s e w' → ∃ c' : Ck, e = .returned (.slice (some ⟨c'.b, c'.off, none⟩) (L + 1) c'.cap) ∧
      w'.cell? ⟨q, 0, none⟩ = some (.slice (some ⟨B, 0, none⟩) m R2.cap) ∧ w'.cell? ⟨B, p, none⟩ = some (.slice (some ⟨c.b, c.off, none⟩) L c.cap) ∧ w'.cell? ⟨q, 1, none⟩ = some (.int .i64 (n : Int)) ∧ w'.frozen? ⟨B, p, none⟩ = false ∧ w'.frozen? ⟨q, 1, none⟩ = false ∧
      Did w q R ((w'.setCell ⟨B, p, none⟩ (.slice (some ⟨c'.b, c'.off, none⟩) (L + 1) c'.cap)).setCell ⟨q, 1, none⟩ (.int .i64 ((n : Int) + 1))) (insAt (flat R.cs) i s)) := by
    rintro W hb e w' ⟨c', rfl, ck', el, t, alt⟩
    have tw : Turn c.rng w2 w' := (Turn.of_below (D := c.rng) hb).trans t fun a x => .inl x
    obtain ⟨k0, k1, k2, k3, k4⟩ := KEEP.out W hb
    have sz := hb.size
    have len' : c'.l.length = L + 1 := by rw [el, insAt_len _ _ _ ek, eL]
    have stp := st.lies.step e2 eB tw ck' (by
      rcases PutIn.rng (k := k) (s := s) (w' := w') alt with x | x
      · exact .inl x
      · exact .inr (by omega))
    have stc := (st.trans stp).count (n + 1)
    rw [← ep] at stc
    have cv : ckv c' = .slice (some ⟨c'.b, c'.off, none⟩) (L + 1) c'.cap := by unfold ckv; rw [len']
    rw [cv, show ((n + 1 : Nat) : Int) = (n : Int) + 1 by omega] at stc
    refine ⟨c', by rw [cv], ?_, ?_, ?_, ?_, ?_, _, stc, ⟨stc.lies, ?_, ?_⟩, ?_⟩
    · rw [tw.cell _ lq (fun x => cq x.1.symm)]; exact d0
    · rw [tw.cell _ lB (fun x => cB x.1.symm)]; exact d1
    · rw [tw.cell _ lq (fun x => cq x.1.symm)]; exact d2
    · rw [tw.frozen _ lB]; exact fB
    · rw [tw.frozen _ lq]; exact fq1
    · show n + 1 = (flat (pre ++ c' :: post)).length
      have := H.out.num
      rw [← EN.out, ← ef, e2, flat_mid] at this
      rw [flat_mid]
      simp only [List.length_append] at this ⊢
      omega
    · show Nice (lens (pre ++ c' :: post))
      rw [lens_mid, len', eL]; exact nice
    · show flat (pre ++ c' :: post) = _
      rw [flat_mid, el, ← ef, e2, flat_mid, ei, insAt_mid _ _ _ _ _ ek]
  obtain ⟨xb, exb⟩ : ∃ x, x = c.b := ⟨_, rfl⟩
  obtain ⟨xo, exo⟩ : ∃ x, x = c.off := ⟨_, rfl⟩
  obtain ⟨xc, exc⟩ : ∃ x, x = c.cap := ⟨_, rfl⟩
  rw [← exb, ← exo, ← exc] at HP KEEP FACT d1
  rw [← exc] at cl cb
  have ek' : (k : Int) ≤ (L : Int) := by omega
  clear sp st en2 e2 ef ei ek nice ep em eL eB exb exo exc ckc L9 fq1 cq cB
  have BW := Lib.hid (Below.refl w2.heap.size w2)
  go_wp2_with fail
  refine wp_region_tail_list (S := fun W => W.cell? ⟨q, 0, none⟩ = some (.slice (some ⟨B, 0, none⟩) m R2.cap) ∧ W.cell? ⟨B, p, none⟩ = some (.slice (some ⟨xb, xo, none⟩) L xc)) (by simp) (by kernel_rfl) (by kernel_rfl) ⟨d0, d1⟩ (fun hHeld => ?_)
  simp only [List.dropLast_cons_cons, List.dropLast_singleton, List.getLast_cons_cons, List.getLast_singleton, List.length_cons, List.length_nil, Nat.reduceAdd]
  refine wpAnyH_take (i := 0) (v := ?_) rfl (by kernel_rfl) (by kernel_rfl) (by kernel_rfl) (fun _ _ _ h => h) (Or.inl ⟨by rfl, ?_⟩) hHeld ?_
  rotate_left
  · intro W hSw; obtain ⟨hc0, hc1⟩ := hSw; go_simp; try with_reducible rfl
  refine wpAnyH_take (i := 1) (v := ?_) rfl (by kernel_rfl) (by kernel_rfl) (by kernel_rfl) (fun _ _ _ h => h) (Or.inl ⟨by rfl, ?_⟩) hHeld ?_
  rotate_left
  · intro W hSw; obtain ⟨hc0, hc1⟩ := hSw; go_simp; try with_reducible rfl
  refine wpAnyH_take (i := 2) (v := ?_) rfl (by kernel_rfl) (by kernel_rfl) (by kernel_rfl) (fun _ _ _ h => h) (Or.inl ⟨by rfl, ?_⟩) hHeld ?_
  rotate_left
  · intro W hSw; obtain ⟨hc0, hc1⟩ := hSw; go_simp; try with_reducible rfl
  refine wpAnyH_take (i := 3) (v := ?_) rfl (by kernel_rfl) (by kernel_rfl) (by kernel_rfl) (fun _ _ _ h => h) (Or.inl ⟨by rfl, ?_⟩) hHeld ?_
  rotate_left
  · intro W hSw; obtain ⟨hc0, hc1⟩ := hSw; go_simp; try with_reducible rfl
  refine wpAnyH_take (i := 4) (v := ?_) rfl (by kernel_rfl) (by kernel_rfl) (by kernel_rfl) (fun _ _ _ h => h) (Or.inl ⟨by rfl, ?_⟩) hHeld ?_
  rotate_left
  · intro W hSw; obtain ⟨hc0, hc1⟩ := hSw; go_simp; try with_reducible rfl
  refine wpAnyH_take (i := 5) (v := ?_) rfl (by kernel_rfl) (by kernel_rfl) (by kernel_rfl) (fun _ _ _ h => h) (Or.inl ⟨by rfl, ?_⟩) hHeld ?_
  rotate_left
  · intro W hSw; obtain ⟨hc0, hc1⟩ := hSw; go_simp; try with_reducible rfl
  refine wpAnyH_take (i := 6) (v := ?_) rfl (by kernel_rfl) (by kernel_rfl) (by kernel_rfl) (fun _ _ _ h => h) (Or.inl ⟨by rfl, ?_⟩) hHeld ?_
  rotate_left
  · intro W hSw; obtain ⟨hc0, hc1⟩ := hSw; go_simp; try with_reducible rfl
  refine wpAnyH_take (i := 7) (v := ?_) rfl (by kernel_rfl) (by kernel_rfl) (by kernel_rfl) (fun _ _ _ h => h) (Or.inl ⟨by rfl, ?_⟩) hHeld ?_
  rotate_left
  · intro W hSw; obtain ⟨hc0, hc1⟩ := hSw; go_simp; try with_reducible rfl
  refine wpAnyH_take (i := 8) (v := ?_) rfl (by kernel_rfl) (by kernel_rfl) (by kernel_rfl) (fun _ _ _ h => h) (Or.inl ⟨by rfl, ?_⟩) hHeld ?_
  rotate_left
  · intro W hSw; obtain ⟨hc0, hc1⟩ := hSw; go_simp; try with_reducible rfl
  refine wpAnyH_take (i := 9) (v := ?_) rfl (by kernel_rfl) (by kernel_rfl) (by kernel_rfl) (fun _ _ _ h => h) (Or.inl ⟨by rfl, ?_⟩) hHeld ?_
  rotate_left
  · intro W hSw; obtain ⟨hc0, hc1⟩ := hSw; go_simp; try with_reducible rfl
  refine wpAnyH_take (i := 10) (v := ?_) rfl (by kernel_rfl) (by kernel_rfl) (by kernel_rfl) (fun _ _ _ h => h) (Or.inl ⟨by rfl, ?_⟩) hHeld ?_
  rotate_left
  · intro W hSw; obtain ⟨hc0, hc1⟩ := hSw; go_simp; try with_reducible rfl
  refine wpAnyH_take (i := 11) (v := ?_) rfl (by kernel_rfl) (by kernel_rfl) (by kernel_rfl) (fun _ _ _ h => h) (Or.inl ⟨by rfl, ?_⟩) hHeld ?_
  rotate_left
  · intro W hSw; obtain ⟨hc0, hc1⟩ := hSw; go_simp; try with_reducible rfl
  refine wpAnyH_take (i := 12) (v := ?_) rfl (by kernel_rfl) (by kernel_rfl) (by kernel_rfl) (fun _ _ _ h => h) (Or.inl ⟨by rfl, ?_⟩) hHeld ?_
  rotate_left
  · intro W hSw; obtain ⟨hc0, hc1⟩ := hSw; go_simp; try with_reducible rfl
  refine wpAnyH_take (i := 13) (v := ?_) rfl (by kernel_rfl) (by kernel_rfl) (by kernel_rfl) (fun _ _ _ h => h) (Or.inl ⟨by rfl, ?_⟩) hHeld ?_
  rotate_left
  · intro W hSw; obtain ⟨hc0, hc1⟩ := hSw; go_simp; try with_reducible rfl
  refine wpAnyH_ready (rs := [14]) (by kernel_rfl) (by simp) ?_
  refine AllReadyH.cons rfl (fun K hK => ?_) AllReadyH.nil
  go_simp
  go_at_call 29
  refine (HC.out _).mono ?_
  rintro e w3 ⟨rfl, hb3⟩
  have BW3 : Hid (Below w2.heap.size w2 w3) := below_then (BW.out.drew) hb3
  obtain ⟨x0, x1, x2, x3, x4⟩ := KEEP.out w3 BW3.out
  refine hK.out _ _ ⟨x0, x1⟩ (fun hHeld1 => ?_)
  clear hK K hHeld hb3
  refine wpAnyH_ready (rs := [15]) (by kernel_rfl) (by simp) ?_
  refine AllReadyH.cons rfl (fun K hK => ?_) AllReadyH.nil
  go_simp
  go_at_call 28
  with_reducible refine (HP.out _ BW3.out).mono ?_
  intro e w4 hi
  obtain ⟨c', rfl, y0, y1, y2, y3, y4, did⟩ := FACT.out _ BW3.out e w4 hi
  have DD := Lib.hid did
  refine hK.out _ _ ⟨y0, y1⟩ (fun hHeld2 => ?_)
  clear hK K hHeld1 hi did
  refine wpAnyH_take (i := 16) (v := ?_) rfl (by kernel_rfl) (by kernel_rfl) (by kernel_rfl) (fun _ _ _ h => h) (Or.inl ⟨by rfl, ?_⟩) hHeld2 ?_
  rotate_left
  · intro W hSw; obtain ⟨hc0, hc1⟩ := hSw; go_simp; try with_reducible rfl
  refine wpAnyH_done (by kernel_rfl) ?_ _
  refine behind_normal (wpOp_step rfl (fun K hK => ?_))
  go_simp
  refine hK _ _ ?_
  clear hK K hHeld2
  go_wp2_with fail
  go_ret
  exact ⟨rfl, DD.out⟩
end Go.Proofs.Yteghokakjonblaa
