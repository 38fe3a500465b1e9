/- Package chunk: a chunk that lost a text is made as a row asks for. -/
import Derived.Test.YteghokakjonblaaChMerge
namespace Go.Proofs.Yteghokakjonblaa
open Go.RowKit Go.Lib
set_option linter.unusedVariables false
/-- A row turned into one with the same texts, its sizes good. -/
def Tidy (w : World) (q : Nat) (R : Ch) (w' : World) : Prop := ∃ R', Step w q R w' R' ∧ R'.n = R.n ∧ flat R'.cs = flat R.cs ∧ Nice (lens R'.cs)
set_option maxHeartbeats 1000000 in
theorem join_gone (w : World) (q : Nat) (R : Ch) (h : Lies w q R) {pre post : List Ck} {c : Ck} (e : R.cs = pre ++ c :: post) (hl : c.l.length = 0) (nice : Nice (lens pre ++ (c.l.length + 1) :: lens post)) :
    Calls Try.prog 32 #[.pointer (some ⟨q, 0, none⟩), .int .i64 (pre.length : Int)] w fun e w' => e = .returned (.tuple #[]) ∧ Tidy w q R w' := by
  obtain ⟨B, eB, sp⟩ := h.spot e
  have c0 := sp.head
  have c1 := sp.slot
  rw [hl] at c1
  have b0 := sp.len
  have b1 := sp.big
  have p2 := sp.lt
  have bc := sp.ck.big
  obtain ⟨p, ep⟩ : ∃ p, p = pre.length := ⟨_, rfl⟩
  obtain ⟨n, en⟩ : ∃ n, n = R.cs.length := ⟨_, rfl⟩
  have fq := sp.fq
  have Bq := sp.Bq
  have sB := h.some_ B eB
  have lq := h.lt
  have call : Calls Try.prog 37 #[.slice (some ⟨B, 0, none⟩) n R.cap, .int .i64 (p : Int), .int .i64 ((p : Int) + 1)] w fun e w' => e = .returned (.slice (some ⟨B, 0, none⟩) (n - 1) R.cap) ∧ Sl w' B 0 R.cap ((R.cs.map ckv).eraseIdx p) ∧ Turn (Rng B 0 R.cap) w w' := by
    have := delC.any sB p (by rw [List.length_map, ep]; exact p2)
    rwa [List.length_map, ← en] at this
  have FIN : Hid (∀ w6, Sl w6 B 0 R.cap ((R.cs.map ckv).eraseIdx p) → Turn (Rng B 0 R.cap) w w6 → w6.cell? ⟨q, 0, none⟩ = some (.slice (some ⟨B, 0, none⟩) n R.cap) ∧ w6.frozen? ⟨q, 0, none⟩ = false ∧ Tidy w q R (w6.setCell ⟨q, 0, none⟩ (.slice (some ⟨B, 0, none⟩) (n - 1) R.cap))) := by
    intro w6 s6 t6
    refine ⟨by rw [t6.cell _ lq (fun a => Bq a.1.symm), en]; exact c0, by rw [t6.frozen _ lq]; exact fq, ?_⟩
    have k := h.deleted (B := B) (k := p) eB (by rw [ep]; exact p2) t6 s6
    have er : R.cs.eraseIdx p = pre ++ post := by rw [e, ep]; exact erase_mid pre post c
    rw [er, ← en] at k
    refine ⟨_, k, rfl, ?_, ?_⟩
    · show flat (pre ++ post) = flat R.cs
      rw [e, flat_mid, flat_app, List.length_eq_zero_iff.1 hl]; rfl
    · show Nice (lens (pre ++ post))
      rw [hl] at nice
      have := nice.gone
      unfold lens at this ⊢
      rwa [List.map_append]
  rw [← ep] at c1 p2 ⊢
  rw [← en] at c0 b0 p2
  have p0 : (0 : Int) ≤ (p : Int) := by omega
  have p1 : (p : Int) < (n : Int) := by omega
  have pw1 : IntKind.i64.wrap ((p : Int) + 1) = (p : Int) + 1 := by rw [IntKind.wrap_i64]; omega
  have CALL := Lib.hid call
  clear h sp e eB hl nice ep en sB call
  go_enter Try.func32, Try.ntmps32
  go_wp2_with fail
  go_at_call 37
  with_reducible refine CALL.out.mono ?_
  rintro e w6 ⟨rfl, s6, t6⟩
  obtain ⟨x0, x1, x2⟩ := FIN.out w6 s6 t6
  have X := Lib.hid x2
  clear s6 t6 x2
  go_wp2_with fail
  go_end0
  exact ⟨rfl, X.out⟩
set_option maxHeartbeats 2000000 in
theorem join_at (w : World) (q : Nat) (R : Ch) (h : Lies w q R) {pre post : List Ck} {c : Ck} (e : R.cs = pre ++ c :: post) (hl : c.l.length ≠ 0) (b1 b2 : Bool)
    (SA : ∀ w', Below w.heap.size w w' → Calls Try.prog 38 #[.pointer (some ⟨q, 0, none⟩), .int .i64 ((pre.length : Int) - 1)] w' fun e w'' => e = .returned (.bool b1) ∧ Below w'.heap.size w' w'')
    (SB : ∀ w', Below w.heap.size w w' → Calls Try.prog 38 #[.pointer (some ⟨q, 0, none⟩), .int .i64 (pre.length : Int)] w' fun e w'' => e = .returned (.bool b2) ∧ Below w'.heap.size w' w'')
    (MA : b1 = true → ∀ w', Below w.heap.size w w' → Calls Try.prog 39 #[.pointer (some ⟨q, 0, none⟩), .int .i64 ((pre.length : Int) - 1)] w' fun e w'' => e = .returned (.tuple #[]) ∧ Tidy w q R w'')
    (MB : b1 = false → b2 = true → ∀ w', Below w.heap.size w w' → Calls Try.prog 39 #[.pointer (some ⟨q, 0, none⟩), .int .i64 (pre.length : Int)] w' fun e w'' => e = .returned (.tuple #[]) ∧ Tidy w q R w'')
    (MC : b1 = false → b2 = false → ∀ w', Below w.heap.size w w' → Tidy w q R w') :
    Calls Try.prog 32 #[.pointer (some ⟨q, 0, none⟩), .int .i64 (pre.length : Int)] w fun e w' => e = .returned (.tuple #[]) ∧ Tidy w q R w' := by
  obtain ⟨B, eB, sp⟩ := h.spot e
  have c0 := sp.head
  have c1 := sp.slot
  have b0 := sp.len
  have b9 := sp.big
  have p2 := sp.lt
  have bc := sp.ck.big
  have bc0 := sp.ck.len
  rw [List.length_map] at bc0
  obtain ⟨p, ep⟩ : ∃ p, p = pre.length := ⟨_, rfl⟩
  obtain ⟨n, en⟩ : ∃ n, n = R.cs.length := ⟨_, rfl⟩
  obtain ⟨L, eL⟩ : ∃ L, L = c.l.length := ⟨_, rfl⟩
  rw [← ep, ← eL] at c1
  rw [← en] at c0 b0 p2
  rw [← ep] at p2 SA SB MA MB ⊢
  rw [← eL] at hl bc0
  have p0 : (0 : Int) ≤ (p : Int) := by omega
  have p1 : (p : Int) < (n : Int) := by omega
  have pw1 : IntKind.i64.wrap ((p : Int) - 1) = (p : Int) - 1 := by rw [IntKind.wrap_i64]; omega
  have l0 : ¬ ((L : Int) = 0) := by omega
  have SA := Lib.hid SA
  have SB := Lib.hid SB
  have MA := Lib.hid MA
  have MB := Lib.hid MB
  have MC := Lib.hid MC
  clear h sp e eB ep en eL
  cases b1
  · cases b2
    · go_enter Try.func32, Try.ntmps32
      go_wp2_with fail
      go_at_call 38
      with_reducible refine (SA.out _ (Below.refl _ _)).mono ?_
      rintro e w1 ⟨rfl, hb1⟩
      have HB1 := Lib.hid hb1
      clear hb1
      go_wp2_with fail
      go_at_call 38
      with_reducible refine (SB.out _ HB1.out).mono ?_
      rintro e w2 ⟨rfl, hb2⟩
      have HB2 := Lib.hid (below_then HB1.out hb2)
      clear hb2
      go_wp2_with fail
      go_end0
      exact ⟨rfl, MC.out trivial trivial _ HB2.out⟩
    · go_enter Try.func32, Try.ntmps32
      go_wp2_with fail
      go_at_call 38
      with_reducible refine (SA.out _ (Below.refl _ _)).mono ?_
      rintro e w1 ⟨rfl, hb1⟩
      have HB1 := Lib.hid hb1
      clear hb1
      go_wp2_with fail
      go_at_call 38
      with_reducible refine (SB.out _ HB1.out).mono ?_
      rintro e w2 ⟨rfl, hb2⟩
      have HB2 := Lib.hid (below_then HB1.out hb2)
      clear hb2
      go_wp2_with fail
      go_at_call 39
      with_reducible refine (MB.out trivial trivial _ HB2.out).mono ?_
      rintro e w3 ⟨rfl, td⟩
      have TD := Lib.hid td
      clear td
      go_wp2_with fail
      go_end0
      exact ⟨rfl, TD.out⟩
  · go_enter Try.func32, Try.ntmps32
    go_wp2_with fail
    go_at_call 38
    with_reducible refine (SA.out _ (Below.refl _ _)).mono ?_
    rintro e w1 ⟨rfl, hb1⟩
    have HB1 := Lib.hid hb1
    clear hb1
    go_wp2_with fail
    go_at_call 39
    with_reducible refine (MA.out trivial _ HB1.out).mono ?_
    rintro e w3 ⟨rfl, td⟩
    have TD := Lib.hid td
    clear td
    go_wp2_with fail
    go_end0
    exact ⟨rfl, TD.out⟩
theorem Tidy.of {w w' w'' : World} {q : Nat} {R : Ch} (h : Lies w q R) (b : Below w.heap.size w w') {cs : List Ck} (s : Step w' q R w'' { R with cs := cs }) (hf : flat cs = flat R.cs) (hn : Nice (lens cs)) : Tidy w q R w'' :=
  ⟨_, (Step.refl h b).trans s, rfl, hf, hn⟩
theorem flat_two {pre post : List Ck} {c d c' : Ck} (h : c'.l = c.l ++ d.l) : flat (pre ++ c' :: post) = flat (pre ++ c :: d :: post) := by
  rw [flat_mid pre post c', flat_mid pre (d :: post) c, flat_cons, h, List.append_assoc]
theorem lens_app (a b : List Ck) : lens (a ++ b) = lens a ++ lens b := by unfold lens; simp
theorem last_lens {pre : List Ck} {x : Ck} : (lens (pre ++ [x])).getLast? = some x.l.length := by unfold lens; simp
theorem join_any (w : World) (q : Nat) (R : Ch) (h : Lies w q R) {pre post : List Ck} {c : Ck} (e : R.cs = pre ++ c :: post) (nice : Nice (lens pre ++ (c.l.length + 1) :: lens post)) :
    Calls Try.prog 32 #[.pointer (some ⟨q, 0, none⟩), .int .i64 (pre.length : Int)] w fun e w' => e = .returned (.tuple #[]) ∧ Tidy w q R w' := by
  by_cases hl : c.l.length = 0
  · exact join_gone w q R h e hl nice
  have hl1 : 1 ≤ c.l.length := by omega
  have c32 := (nice.all (c.l.length + 1) (by simp)).2
  -- what is to the left
  rcases List.eq_nil_or_concat pre with ep | ⟨pre0, x, ep⟩
  · subst ep
    have SA : ∀ w', Below w.heap.size w w' → Calls Try.prog 38 #[.pointer (some ⟨q, 0, none⟩), .int .i64 ((([] : List Ck).length : Int) - 1)] w' fun e w'' => e = .returned (.bool false) ∧ Below w'.heap.size w' w'' := fun w' _ => sparse_neg w' q
    cases post with
    | nil =>
      refine join_at w q R h e hl false false SA (fun w' b => sparse_end w' q R (h.below b) e) (fun z => by cases z) (fun _ z => by cases z) fun _ _ w' b => ⟨R, Step.refl h b, rfl, rfl, ?_⟩
      rw [e, lens_mid]
      exact nice.less hl1 (fun x hx => by cases hx) (fun y hy => by cases hy)
    | cons y post0 =>
      have y32 := nice.all y.l.length (by rw [show lens (y :: post0) = y.l.length :: lens post0 from rfl]; simp)
      refine join_at w q R h e hl false (decide (c.l.length + y.l.length < 16)) SA (fun w' b => sparse_two w' q R (h.below b) e (by omega) (by omega)) (fun z => by cases z) (fun _ z w' b => ?_) fun _ z w' b => ⟨R, Step.refl h b, rfl, rfl, ?_⟩
      · refine (merge_any w' q R (h.below b) e (fun z => by rw [z] at y32; exact absurd y32.1 (by decide)) (by omega)).mono ?_
        rintro e' w'' ⟨rfl, c', hc, st⟩
        refine ⟨rfl, Tidy.of h b st (by rw [e]; exact flat_two hc) ?_⟩
        rw [lens_mid, hc, List.length_append]
        exact nice.right (of_decide_eq_true z) hl1 (fun x hx => by cases hx)
      · rw [e, lens_mid]
        refine nice.less hl1 (fun x hx => by cases hx) (fun y' hy => ?_)
        have : y' = y.l.length := by
          rw [show lens (y :: post0) = y.l.length :: lens post0 from rfl] at hy
          simpa using hy.symm
        have := of_decide_eq_false z
        omega
  · rw [List.concat_eq_append] at ep
    subst ep
    have e2 : R.cs = pre0 ++ x :: c :: post := by rw [e]; simp
    have pl : (((pre0 ++ [x]).length : Nat) : Int) - 1 = (pre0.length : Int) := by rw [List.length_append]; show ((pre0.length + 1 : Nat) : Int) - 1 = _; omega
    have nice2 : Nice (lens pre0 ++ x.l.length :: (c.l.length + 1) :: lens post) := by
      rw [lens_app, List.append_assoc] at nice
      exact nice
    have x32 := nice2.all x.l.length (by simp)
    have SA : ∀ w', Below w.heap.size w w' → Calls Try.prog 38 #[.pointer (some ⟨q, 0, none⟩), .int .i64 (((pre0 ++ [x]).length : Int) - 1)] w' fun e w'' => e = .returned (.bool (decide (x.l.length + c.l.length < 16))) ∧ Below w'.heap.size w' w'' := fun w' b => by
      rw [pl]
      exact sparse_two w' q R (h.below b) e2 (by omega) (by omega)
    have MA : decide (x.l.length + c.l.length < 16) = true → ∀ w', Below w.heap.size w w' → Calls Try.prog 39 #[.pointer (some ⟨q, 0, none⟩), .int .i64 (((pre0 ++ [x]).length : Int) - 1)] w' fun e w'' => e = .returned (.tuple #[]) ∧ Tidy w q R w'' := fun z w' b => by
      rw [pl]
      refine (merge_any w' q R (h.below b) e2 (fun z => hl (by rw [z]; rfl)) (by omega)).mono ?_
      rintro e' w'' ⟨rfl, c', hc, st⟩
      refine ⟨rfl, Tidy.of h b st (by rw [e2]; exact flat_two hc) ?_⟩
      rw [lens_mid, hc, List.length_append]
      exact nice2.left (of_decide_eq_true z)
    cases post with
    | nil =>
      refine join_at w q R h e hl _ false SA (fun w' b => sparse_end w' q R (h.below b) e) MA (fun _ z => by cases z) fun z _ w' b => ⟨R, Step.refl h b, rfl, rfl, ?_⟩
      rw [e, lens_mid]
      refine nice.less hl1 (fun x' hx => ?_) (fun y hy => by cases hy)
      rw [last_lens] at hx
      injection hx with hx
      have := of_decide_eq_false z
      omega
    | cons y post0 =>
      have y32 := nice.all y.l.length (by rw [show lens (y :: post0) = y.l.length :: lens post0 from rfl]; simp)
      refine join_at w q R h e hl _ (decide (c.l.length + y.l.length < 16)) SA (fun w' b => sparse_two w' q R (h.below b) e (by omega) (by omega)) MA (fun z1 z w' b => ?_) fun z1 z w' b => ⟨R, Step.refl h b, rfl, rfl, ?_⟩
      · refine (merge_any w' q R (h.below b) e (fun z => by rw [z] at y32; exact absurd y32.1 (by decide)) (by omega)).mono ?_
        rintro e' w'' ⟨rfl, c', hc, st⟩
        refine ⟨rfl, Tidy.of h b st (by rw [e]; exact flat_two hc) ?_⟩
        rw [lens_mid, hc, List.length_append]
        refine nice.right (of_decide_eq_true z) hl1 (fun x' hx => ?_)
        rw [last_lens] at hx
        injection hx with hx
        have := of_decide_eq_false z1
        omega
      · rw [e, lens_mid]
        refine nice.less hl1 (fun x' hx => ?_) (fun y' hy => ?_)
        · rw [last_lens] at hx
          injection hx with hx
          have := of_decide_eq_false z1
          omega
        · have : y' = y.l.length := by
            rw [show lens (y :: post0) = y.l.length :: lens post0 from rfl] at hy
            simpa using hy.symm
          have := of_decide_eq_false z
          omega
end Go.Proofs.Yteghokakjonblaa
