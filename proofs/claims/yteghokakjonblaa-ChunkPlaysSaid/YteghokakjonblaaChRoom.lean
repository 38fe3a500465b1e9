/- Package chunk: a chunk with room for one text more. -/
import Derived.Test.YteghokakjonblaaChHalve
import Derived.Test.YteghokakjonblaaChNum
namespace Go.Proofs.Yteghokakjonblaa
open Go.RowKit Go.Lib
set_option linter.unusedVariables false
/-- The row in memory, its sizes. -/
structure Fine (w : World) (q : Nat) (R : Ch) : Prop where
  lies : Lies w q R
  num : R.n = (flat R.cs).length
  nice : Nice (lens R.cs)
theorem Fine.few {w : World} {q : Nat} {R : Ch} (h : Fine w q R) : R.cs.length ≤ R.n := by
  have := h.nice.len_le
  rw [← flat_len, ← h.num] at this
  unfold lens at this
  rwa [List.length_map] at this
/-- Room found: where a text comes, in a row with the same texts. -/
def Roomy (w : World) (q : Nat) (R : Ch) (i : Nat) (e : Ending) (w' : World) : Prop :=
  ∃ (pre : List Ck) (c : Ck) (post : List Ck) (k : Nat) (R' : Ch), e = .returned (.tuple #[.int .i64 (pre.length : Int), .int .i64 (k : Int)]) ∧ Step w q R w' R' ∧ R'.n = R.n ∧ R'.cs = pre ++ c :: post ∧ flat R'.cs = flat R.cs ∧
    i = (flat pre).length + k ∧ k ≤ c.l.length ∧ Nice (lens pre ++ (c.l.length + 1) :: lens post)
set_option maxHeartbeats 2000000 in
theorem room_any (w : World) (q : Nat) (R : Ch) (h : Fine w q R) (hs : R.n ≤ 1048576) (i : Nat) (hi : i ≤ R.n) :
    Calls Try.prog 27 #[.pointer (some ⟨q, 0, none⟩), .int .i64 (i : Int)] w (Roomy w q R i) := by
  have H := Lib.hid h
  have few := h.few
  have HI := Lib.hid (And.intro hi (And.intro few hs))
  have c1 := h.lies.num
  by_cases z : R.n = 0
  · have e0 : R.cs = [] := h.nice.nil (by rw [← h.num, z])
    have i0 : i = 0 := by omega
    subst i0
    rw [z] at c1
    have E0 := Lib.hid e0
    have HO := Lib.hid (open_any w q R h.lies 0 (Nat.zero_le _) (by omega))
    clear h few hi hs z e0
    go_enter Try.func27, Try.ntmps27
    go_wp2_with fail
    go_at_call 33
    refine HO.out.mono ?_
    rintro e w' ⟨rfl, B, cap, c, st, hc⟩
    have ST := Lib.hid (And.intro st hc)
    clear st hc
    go_wp2_with fail
    go_ret2
    refine ⟨[], c, [], 0, _, rfl, ST.out.1, rfl, by rw [E0.out]; rfl, ?_, rfl, Nat.zero_le _, ?_⟩
    · rw [E0.out]
      show flat (c :: []) = flat []
      rw [flat_cons, ST.out.2]; rfl
    · rw [ST.out.2]; exact Nice.one
  · have hne : R.cs ≠ [] := fun e => z (by rw [h.num, e]; rfl)
    have HF := Lib.hid (find_any w q R h.lies h.num (by omega) hne i hi)
    obtain ⟨n, en⟩ : ∃ n, n = R.n := ⟨_, rfl⟩
    rw [← en] at c1
    have EN := Lib.hid en
    have nz : ¬ ((n : Int) = 0) := by omega
    have n1 : (n : Int) ≤ 1048576 := by omega
    clear h few hi hs z hne en
    go_enter Try.func27, Try.ntmps27
    go_wp2_with fail
    go_at_call 26
    refine HF.out.mono ?_
    rintro e w1 ⟨hb, pre, c, post, k, rfl, fo⟩
    have l1 := H.out.lies.below hb
    obtain ⟨B, eB, sp⟩ := l1.spot fo.1
    have d0 := sp.head
    have d1 := sp.slot
    have d2 := l1.num
    rw [← EN.out] at d2
    have b0 := sp.len
    have b1 := sp.big
    have p2 := sp.lt
    obtain ⟨p, ep⟩ : ∃ p, p = pre.length := ⟨_, rfl⟩
    obtain ⟨m, em⟩ : ∃ m, m = R.cs.length := ⟨_, rfl⟩
    obtain ⟨L, eL⟩ : ∃ L, L = c.l.length := ⟨_, rfl⟩
    rw [← ep, ← eL] at d1
    rw [← em] at d0 b0 p2
    rw [← ep] at p2 ⊢
    have p0 : (0 : Int) ≤ (p : Int) := by omega
    have p1 : (p : Int) < (m : Int) := by omega
    have cl := sp.ck.len
    have cb := sp.ck.big
    rw [List.length_map, ← eL] at cl
    have nice := H.out.nice
    rw [fo.1, lens_mid] at nice
    have L9 := (nice.all c.l.length (by simp)).2
    rw [← eL] at L9
    have k9 := fo.2.2.1
    rw [← eL] at k9
    have FO := Lib.hid (And.intro fo (And.intro nice (And.intro l1 (And.intro hb (And.intro ep (And.intro em eL))))))
    have FM : Hid (p < m ∧ m ≤ 1048576) := ⟨p2, by have := HI.out; omega⟩
    clear sp l1 fo nice ep em eL eB hb
    by_cases a1 : L < 32
    · have a1' : (L : Int) < 32 := by omega
      go_wp2_with fail
      go_ret2
      obtain ⟨fo, nice, l1, hb, ep, em, eL⟩ := FO.out
      exact ⟨pre, c, post, k, R, by rw [ep]; rfl, Step.refl H.out.lies hb, rfl, fo.1, rfl, fo.2.1, fo.2.2.1, nice.up (by omega)⟩
    · have a1' : (L : Int) = 32 := by omega
      rw [show L = 32 by omega] at d1
      have A1 : Hid (L = 32) := by show L = 32; omega
      clear a1 a1' L9 cl k9
      by_cases a2 : i = 0
      · subst a2
        have HO := Lib.hid (open_any w1 q R FO.out.2.2.1 0 (Nat.zero_le _) (by have := FM.out; have := FO.out.2.2.2.2.2.1; omega))
        go_wp2_with fail
        go_at_call 33
        refine HO.out.mono ?_
        rintro e w2 ⟨rfl, B2, cap2, x, st, hx⟩
        have ST := Lib.hid (And.intro st hx)
        clear st hx
        go_wp2_with fail
        go_ret2
        obtain ⟨fo, nice, l1, hb, ep, em, eL⟩ := FO.out
        obtain ⟨st, hx⟩ := ST.out
        have pe : pre = [] := H.out.nice.nil_of (fun y hy => by rw [fo.1]; simp [hy]) (by have := fo.2.1; omega)
        subst pe
        have e1 : R.cs = c :: post := fo.1
        refine ⟨[], x, R.cs, 0, _, rfl, (Step.refl H.out.lies hb).trans st, rfl, rfl, ?_, rfl, Nat.zero_le _, ?_⟩
        · show flat (R.cs.take 0 ++ x :: R.cs.drop 0) = flat R.cs
          rw [List.take_zero, List.drop_zero, List.nil_append, flat_cons, hx]; rfl
        · rw [hx, e1]
          have nice : Nice (c.l.length :: lens post) := nice
          exact nice.front (by have := A1.out; omega)
      · have a2' : ¬ ((i : Int) = 0) := by omega
        have A2 := Lib.hid a2
        clear a2
        by_cases a3 : i = n
        · have a3' : (i : Int) = (n : Int) := by omega
          subst a3
          have HO := Lib.hid (open_any w1 q R FO.out.2.2.1 (p + 1) (by have := FM.out; have := FO.out.2.2.2.2.2.1; omega) (by have := FM.out; have := FO.out.2.2.2.2.2.1; omega))
          rw [show ((p + 1 : Nat) : Int) = (p : Int) + 1 by omega] at HO
          go_wp2_with fail
          go_at_call 33
          refine HO.out.mono ?_
          rintro e w2 ⟨rfl, B2, cap2, x, st, hx⟩
          have ST := Lib.hid (And.intro st hx)
          clear st hx
          go_wp2_with fail
          go_ret2
          obtain ⟨fo, nice, l1, hb, ep, em, eL⟩ := FO.out
          obtain ⟨st, hx⟩ := ST.out
          have tot := H.out.num
          rw [fo.1, flat_mid, List.length_append, List.length_append, ← EN.out] at tot
          have e2 := fo.2.1
          have e3 := fo.2.2.1
          have pe : post = [] := H.out.nice.nil_of (fun y hy => by rw [fo.1]; simp [hy]) (by omega)
          subst pe
          have e1 : R.cs = pre ++ [c] := fo.1
          have e4 : R.cs.take (p + 1) = R.cs := by rw [List.take_of_length_le]; rw [e1, ep]; simp
          have e5 : R.cs.drop (p + 1) = [] := by rw [List.drop_eq_nil_of_le]; rw [e1, ep]; simp
          refine ⟨R.cs, x, [], 0, _, by rw [e1, ep]; simp, (Step.refl H.out.lies hb).trans st, rfl, by show R.cs.take (p + 1) ++ x :: R.cs.drop (p + 1) = _; rw [e4, e5], ?_, ?_, Nat.zero_le _, ?_⟩
          · show flat (R.cs.take (p + 1) ++ x :: R.cs.drop (p + 1)) = flat R.cs
            rw [e4, e5, flat_mid, hx]; simp [flat_nil]
          · rw [← H.out.num, ← EN.out]; rfl
          · rw [hx, e1, lens_mid, List.append_assoc]
            exact nice.back (by have := A1.out; omega)
        · have a3' : ¬ ((i : Int) = (n : Int)) := by omega
          clear a3
          have HV := Lib.hid (halve_any w1 q R FO.out.2.2.1 FO.out.1.1 (by have := A1.out; have := FO.out.2.2.2.2.2.2; omega) (by have := FM.out; have := FO.out.2.2.2.2.2.1; omega))
          rw [← FO.out.2.2.2.2.1] at HV
          go_wp2_with fail
          go_at_call 34
          refine HV.out.mono ?_
          rintro e w2 ⟨rfl, B2, cap2, st⟩
          have ST := Lib.hid st
          clear st
          by_cases a4 : 16 < k
          · have a4' : (16 : Int) < (k : Int) := by omega
            have k1 : (k : Int) - 16 = ((k - 16 : Nat) : Int) := by omega
            have k2 : (k : Int) ≤ 1048576 := by have := FO.out.1.2.1; have := HI.out; omega
            obtain ⟨kk, ek⟩ : ∃ kk, kk = k - 16 := ⟨_, rfl⟩
            rw [← ek] at k1
            have EK := Lib.hid ek
            have A4 := Lib.hid a4
            clear ek a4
            go_wp2_with fail
            go_ret2
            obtain ⟨fo, nice, l1, hb, ep, em, eL⟩ := FO.out
            have l32 : c.l.length = 32 := by have := A1.out; omega
            have e3 := fo.2.2.1
            have l16 : (leftOf c).l.length = 16 := by show (c.l.take 16).length = 16; rw [List.length_take]; omega
            have r16 : (rightOf c).l.length = 16 := by show (c.l.drop 16).length = 16; rw [List.length_drop]; omega
            refine ⟨pre ++ [leftOf c], rightOf c, post, kk, _, ?_, (Step.refl H.out.lies hb).trans ST.out, rfl, by simp, ?_, ?_, ?_, ?_⟩
            · simp only [List.length_append, List.length_cons, List.length_nil]
              rw [← ep]; rfl
            · rw [flat_mid, flat_cons, fo.1, flat_mid, ← List.append_assoc (leftOf c).l]
              show _ ++ (c.l.take 16 ++ c.l.drop 16 ++ _) = _
              rw [List.take_append_drop]
            · rw [flat_app, flat_cons, List.length_append, List.length_append, l16]
              have := fo.2.1
              have := EK.out
              have := A4.out
              show i = (flat pre).length + (16 + 0) + kk
              omega
            · have := EK.out; omega
            · rw [lens_mid, List.append_assoc, l16, r16]
              exact nice.halved (by omega) (by omega)
          · have a4' : (k : Int) ≤ 16 := by omega
            have A4 : Hid (k ≤ 16) := by show k ≤ 16; omega
            clear a4
            go_wp2_with fail
            go_ret2
            obtain ⟨fo, nice, l1, hb, ep, em, eL⟩ := FO.out
            have l32 : c.l.length = 32 := by have := A1.out; omega
            have l16 : (leftOf c).l.length = 16 := by show (c.l.take 16).length = 16; rw [List.length_take]; omega
            have r16 : (rightOf c).l.length = 16 := by show (c.l.drop 16).length = 16; rw [List.length_drop]; omega
            refine ⟨pre, leftOf c, rightOf c :: post, k, _, by rw [ep]; rfl, (Step.refl H.out.lies hb).trans ST.out, rfl, rfl, ?_, fo.2.1, by rw [l16]; exact A4.out, ?_⟩
            · rw [flat_mid, flat_cons, fo.1, flat_mid, ← List.append_assoc (leftOf c).l]
              show _ ++ (c.l.take 16 ++ c.l.drop 16 ++ _) = _
              rw [List.take_append_drop]
            · rw [l16]
              show Nice (lens pre ++ (16 + 1) :: (rightOf c).l.length :: lens post)
              rw [r16]
              exact nice.halved (by omega) (by omega)
end Go.Proofs.Yteghokakjonblaa
