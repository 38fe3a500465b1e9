/- The walk of the law ChunkSame. -/
import Derived.Test.YteghokakjonblaaChParts
import Derived.Deep.RegionHeld3
namespace Go.Proofs.Yteghokakjonblaa
open Go.RowKit Go.Lib
set_option linter.unusedVariables false
theorem at_nat (l : List ByteArray) (k : Nat) (h : k < l.length) : atOf l (k : Int) = l[k] ∧ there l.length (k : Int) = true := by
  have th : there l.length (k : Int) = true := by unfold there; rw [front_nat]; exact decide_eq_true ⟨by omega, by omega⟩
  refine ⟨?_, th⟩
  unfold atOf
  rw [if_pos th, front_nat, Int.toNat_natCast, List.getElem?_eq_getElem h]
  rfl
theorem at_back (l : List ByteArray) (k n : Nat) (h : k < l.length) (hn : n = l.length) : atOf l ((k : Int) - (n : Int)) = l[k] ∧ there l.length ((k : Int) - (n : Int)) = true := by
  have fr : front l.length ((k : Int) - (n : Int)) = (k : Int) := by unfold front; rw [if_pos (by omega)]; omega
  have th : there l.length ((k : Int) - (n : Int)) = true := by unfold there; rw [fr]; exact decide_eq_true ⟨by omega, by omega⟩
  refine ⟨?_, th⟩
  unfold atOf
  rw [if_pos th, fr, Int.toNat_natCast, List.getElem?_eq_getElem h]
  rfl
theorem at_none (l : List ByteArray) (i : Int) (h : there l.length i = false) : atOf l i = ⟨#[]⟩ := by
  unfold atOf
  rw [h]; rfl
theorem cut_tail (l : List ByteArray) (k n : Nat) (h : k < l.length) (hn : n = l.length) : cut l ((k : Int) - (n : Int)) (-1) = l.drop k := by
  have fr : front l.length ((k : Int) - (n : Int)) = (k : Int) := by unfold front; rw [if_pos (by omega)]; omega
  have f1 : front l.length (-1) = (l.length : Int) - 1 := by unfold front; rw [if_pos (by omega)]; omega
  unfold cut
  rw [fr, f1, if_neg (by omega), show (max (k : Int) 0).toNat = k by omega, List.take_of_length_le]
  rw [List.length_drop]; omega
/-- A part of a slice of texts. -/
theorem IsTx.sub {w : World} {pb po : Nat} {ps : Option _} {l : List ByteArray} {c : Nat} (h : IsTx w (some ⟨pb, po, ps⟩) l c) (k m : Nat) (hk : k + m ≤ l.length) : IsTx w (some ((⟨pb, po, ps⟩ : Addr).add k)) ((l.drop k).take m) (c - k) := by
  refine ⟨(fun e => nomatch e), by have := h.2.1; rw [List.length_take, List.length_drop]; omega, by have := h.2.2.1; omega, fun i hi => ?_⟩
  rw [List.length_map, List.length_take, List.length_drop] at hi
  obtain ⟨p, e, hp, hc⟩ := h.2.2.2 (k + i) (by rw [List.length_map]; omega)
  injection e with e
  subst e
  refine ⟨_, rfl, by rw [add_block]; exact hp, ?_⟩
  rw [add_add, hc, List.getElem_map, List.getElem_map, List.getElem_take, List.getElem_drop]
/-- Two rows of the law's own. -/
def Both (w W : World) (q q2 : Nat) (l : List ByteArray) : Prop := Fresh w W q l ∧ Fresh w W q2 l
set_option maxRecDepth 20000 in
set_option maxHeartbeats 8000000 in
theorem same_walk (w : World) (A : Option Addr) (l : List ByteArray) (c : Nat) (itx : IsTx w A l c) (hsz : ∀ x ∈ l, x.size ≤ 281474976710656) (i : Int) :
    Calls Try.prog 6 #[.slice A l.length c, .int .i64 i] w fun e w' => e = .returned (.bool true) ∧ Below w.heap.size w w' := by
  have q0 := run_nil_row
  obtain ⟨n, en⟩ : ∃ n, n = l.length := ⟨_, rfl⟩
  have lc := itx.2.1
  have lc9 := itx.2.2.1
  unfold maxLen at lc9
  rw [← en] at lc ⊢
  have n0 : (0 : Int) ≤ (n : Int) := by omega
  have n9 : (n : Int) ≤ 9223372036854775807 := by omega
  have ITX := Lib.hid itx
  have LN := Lib.hid en
  have SZ := Lib.hid hsz
  clear itx hsz en
  by_cases h2 : n = 0
  · have h2' : (n : Int) = 0 := by omega
    go_enter Try.func6, Try.ntmps6
    go_wp2_with fail
    go_at_call 7
    with_reducible refine (told_any _).mono ?_
    rintro e w1 ⟨rfl, hb⟩
    have HB := Lib.hid hb
    clear hb
    go_wp2_with fail
    go_ret
    exact ⟨rfl, HB.out⟩
  have h2' : ¬ ((n : Int) = 0) := by omega
  by_cases h1 : 100 < n
  · have h1' : (100 : Int) < (n : Int) := by omega
    go_enter Try.func6, Try.ntmps6
    go_wp2_with fail
    go_at_call 7
    with_reducible refine (told_any _).mono ?_
    rintro e w1 ⟨rfl, hb⟩
    have HB := Lib.hid hb
    clear hb
    go_wp2_with fail
    go_ret
    exact ⟨rfl, HB.out⟩
  have d1 : decide ((100 : Int) < (n : Int)) = false := decide_eq_false (by omega)
  have d2 : ((n : Int) == 0) = false := by simpa using h2'
  obtain ⟨k', hk', ek⟩ := mod_lt i n (by omega) (by omega)
  have un : IntKind.u64.wrap (n : Int) = (n : Int) := by rw [IntKind.wrap_u64]; omega
  have OF := Lib.hid (of_any w A l c ITX.out (by have := LN.out; omega) SZ.out)
  rw [← LN.out] at OF
  obtain ⟨k, xk⟩ : ∃ k, k = k' := ⟨_, rfl⟩
  rw [← xk] at ek hk'
  have k0 : (0 : Int) ≤ (k : Int) := by omega
  have k9 : (k : Int) ≤ 100 := by omega
  have kn : (k : Int) < (n : Int) := by omega
  have nn9 : (n : Int) ≤ 100 := by omega
  have NN : Hid (k < n ∧ 1 ≤ n ∧ n ≤ 100) := by show k < n ∧ 1 ≤ n ∧ n ≤ 100; omega
  clear h1 h2 hk' xk
  obtain ⟨p, eA⟩ : ∃ p, A = some p := by
    obtain ⟨p, e, _⟩ := ITX.out.2.2.2 0 (by rw [List.length_map]; have := NN.out; have := LN.out; omega)
    exact ⟨p, e⟩
  subst eA
  obtain ⟨pb, po, ps⟩ := p
  have kl : k < l.length := by have := NN.out; have := LN.out; omega
  obtain ⟨x, ex⟩ : ∃ x, x = l[k] := ⟨_, rfl⟩
  have cx : w.cell? ((⟨pb, po, ps⟩ : Addr).add k) = some (.string x) := by
    obtain ⟨p, e, hc⟩ := ITX.out.at_ k kl
    injection e with e
    subst e
    rw [hc, ex]
  have a1 := at_nat l k kl
  have a2 := at_back l k n kl LN.out
  rw [← ex] at a1 a2
  have t3 : there l.length (n : Int) = false := by unfold there; rw [front_nat]; exact decide_eq_false fun e => by have := LN.out; omega
  have t4 : there l.length (-(n : Int) - 1) = false := by unfold there front; rw [if_pos (by omega)]; exact decide_eq_false fun e => by have := LN.out; omega
  have AT := Lib.hid (And.intro a1 (And.intro a2 (And.intro t3 (And.intro t4 (And.intro (at_none l _ t3) (at_none l _ t4))))))
  have CX := Lib.hid cx
  have bw0 : pb < w.heap.size := by
    obtain ⟨p, e, hp, _⟩ := ITX.out.2.2.2 0 (by rw [List.length_map]; omega)
    injection e with e
    subst e
    exact hp
  have S1 := Lib.hid (ITX.out.sub k 1 (by omega))
  have S2 := Lib.hid (ITX.out.sub k (l.length - k) (by omega))
  have ck : ¬ (c = k) := by have := NN.out; omega
  clear ex cx a1 a2 t3 t4 kl
  go_enter Try.func6, Try.ntmps6
  go_wp2_with fail
  go_at_call 8
  with_reducible refine OF.out.mono ?_
  rintro e w1 ⟨q, rfl, f1⟩
  have F1 := Lib.hid f1
  clear f1
  have C1 := Lib.hid (f_all F1.out (by have := NN.out; have := LN.out; omega))
  go_wp2_with fail
  go_at_call 13
  with_reducible refine C1.out.mono ?_
  rintro e w2 ⟨A2, c2, rfl, it2, hb2⟩
  have F2 := Lib.hid (F1.out.keep hb2)
  have OF2 := Lib.hid (of_any w2 A2 l c2 it2 (by have := NN.out; have := LN.out; omega) SZ.out)
  clear it2 hb2
  go_wp2_with fail
  go_at_call 8
  with_reducible refine OF2.out.mono ?_
  rintro e w3 ⟨q2, rfl, g3⟩
  have F3 := Lib.hid (F2.out.keep g3.bel)
  have G3 := Lib.hid (g3.mono F2.out.bel)
  clear g3
  have C3 := Lib.hid (f_at F3.out (by have := NN.out; have := LN.out; omega) (k : Int) (by omega) (by omega))
  rw [AT.out.1.1, AT.out.1.2] at C3
  go_wp2_with fail
  try rw [ek]
  go_wp2_with fail
  go_at_call 21
  with_reducible refine C3.out.mono ?_
  rintro e w4 ⟨rfl, hb4⟩
  have F4 := Lib.hid (F3.out.keep hb4)
  have G4 := Lib.hid (G3.out.keep hb4)
  clear hb4
  have C4 := Lib.hid (f_at G4.out (by have := NN.out; have := LN.out; omega) ((k : Int) - (n : Int)) (by omega) (by omega))
  rw [AT.out.2.1.1, AT.out.2.1.2] at C4
  go_wp2_with fail
  go_at_call 21
  with_reducible refine C4.out.mono ?_
  rintro e w5 ⟨rfl, hb5⟩
  have F5 := Lib.hid (F4.out.keep hb5)
  have G5 := Lib.hid (G4.out.keep hb5)
  clear hb5
  have C5 := Lib.hid (f_at F5.out (by have := NN.out; have := LN.out; omega) (n : Int) (by omega) (by omega))
  rw [AT.out.2.2.1, AT.out.2.2.2.2.1] at C5
  go_wp2_with fail
  go_at_call 21
  with_reducible refine C5.out.mono ?_
  rintro e w6 ⟨rfl, hb6⟩
  have F6 := Lib.hid (F5.out.keep hb6)
  have G6 := Lib.hid (G5.out.keep hb6)
  clear hb6
  have C6 := Lib.hid (f_at F6.out (by have := NN.out; have := LN.out; omega) (-(n : Int) - 1) (by omega) (by omega))
  rw [AT.out.2.2.2.1, AT.out.2.2.2.2.2] at C6
  go_wp2_with fail
  go_at_call 21
  with_reducible refine C6.out.mono ?_
  rintro e w7 ⟨rfl, hb7⟩
  have F7 := Lib.hid (F6.out.keep hb7)
  have G7 := Lib.hid (G6.out.keep hb7)
  clear hb7
  have cx7 : w7.cell? ((⟨pb, po, ps⟩ : Addr).add k) = some (.string x) := by rw [F7.out.bel.cell (by rw [add_block]; exact bw0)]; exact CX.out
  have S7 : Hid (Both w w7 q q2 l ∧ w7.cell? ((⟨pb, po, ps⟩ : Addr).add k) = some (.string x)) := ⟨⟨F7.out, G7.out⟩, cx7⟩
  have KEEP : Hid (∀ W W' : World, Below W.heap.size W W' → (Both w W q q2 l ∧ W.cell? ((⟨pb, po, ps⟩ : Addr).add k) = some (.string x)) → (Both w W' q q2 l ∧ W'.cell? ((⟨pb, po, ps⟩ : Addr).add k) = some (.string x))) := fun W W' hb h => by
    refine ⟨⟨h.1.1.keep hb, h.1.2.keep hb⟩, ?_⟩
    rw [hb.cell (by rw [add_block]; exact Nat.lt_of_lt_of_le bw0 h.1.1.bel.size)]
    exact h.2
  obtain ⟨k1, ek1⟩ : ∃ k1 : Nat, k1 = k + 1 := ⟨_, rfl⟩
  have i1 : (k : Int) + 1 = (k1 : Int) := by omega
  have i2 : (0 : Int) ≤ (k1 : Int) := by omega
  have i3 : (k1 : Int) ≤ (n : Int) := by omega
  have i4 : (k : Int) ≤ (k1 : Int) := by omega
  have i5 : (k1 : Int) ≤ (c : Int) := by omega
  have i6 : k1 - k = 1 := by omega
  have i7 : (k : Int) ≤ (c : Int) := by omega
  have wk1 : IntKind.i64.wrap (k1 : Int) = (k1 : Int) := by rw [IntKind.wrap_i64]; omega
  have wkn : IntKind.i64.wrap ((k : Int) - (n : Int)) = (k : Int) - (n : Int) := by rw [IntKind.wrap_i64]; omega
  have dk : Hid (l.drop k = (l.drop k).take (l.length - k)) := by
    show l.drop k = (l.drop k).take (l.length - k)
    rw [List.take_of_length_le]; rw [List.length_drop]; omega
  have len1 : ((l.drop k).take 1).length = 1 := by rw [List.length_take, List.length_drop]; have := NN.out; have := LN.out; omega
  have len2 : (l.drop k).length = n - k := by rw [List.length_drop, ← LN.out]
  have CALL : Hid (∀ W : World, (Both w W q q2 l ∧ W.cell? ((⟨pb, po, ps⟩ : Addr).add k) = some (.string x)) → Calls Try.prog 13 #[.pointer (some ⟨q2, 0, none⟩)] W fun e w' => ∃ A c, e = .returned (.slice A n c) ∧ IsTx w' A l c ∧ Below W.heap.size W w') := fun W h => by
    have := f_all h.1.2 (by have := NN.out; have := LN.out; omega)
    rwa [← LN.out] at this
  have TALL : Hid (∀ (W : World) (A9 : Option Addr) (c9 : Nat), IsTx W A9 l c9 → (Both w W q q2 l ∧ W.cell? ((⟨pb, po, ps⟩ : Addr).add k) = some (.string x)) → Calls Try.prog 12 #[.slice A9 n c9, .slice (some ⟨pb, po, ps⟩) n c] W fun e w' => e = .returned (.bool true) ∧ Below W.heap.size W w') := fun W A9 c9 it h => by
    have := texts_any W A9 (some ⟨pb, po, ps⟩) l l c9 c it (ITX.out.keep h.1.1.bel)
    rwa [decide_eq_true rfl, ← LN.out] at this
  have CS1 : Hid (∀ W : World, (Both w W q q2 l ∧ W.cell? ((⟨pb, po, ps⟩ : Addr).add k) = some (.string x)) → Calls Try.prog 18 #[.pointer (some ⟨q, 0, none⟩), .int .i64 (k : Int), .int .i64 (k : Int)] W fun e w' => ∃ A c, e = .returned (.slice A 1 c) ∧ IsTx w' A ((l.drop k).take 1) c ∧ Below W.heap.size W w') := fun W h => by
    have := f_slice h.1.1 (by have := NN.out; have := LN.out; omega) (k : Int) (k : Int) (by omega) (by omega) (by omega) (by omega)
    rwa [cut_nat l k k (Nat.le_refl _) (by have := NN.out; have := LN.out; omega), show k - k + 1 = 1 by omega, len1] at this
  have TS1 : Hid (∀ (W : World) (A9 : Option Addr) (c9 : Nat), IsTx W A9 ((l.drop k).take 1) c9 → (Both w W q q2 l ∧ W.cell? ((⟨pb, po, ps⟩ : Addr).add k) = some (.string x)) → Calls Try.prog 12 #[.slice A9 1 c9, .slice (some ((⟨pb, po, ps⟩ : Addr).add k)) 1 (c - k)] W fun e w' => e = .returned (.bool true) ∧ Below W.heap.size W w') := fun W A9 c9 it h => by
    have := texts_any W A9 (some ((⟨pb, po, ps⟩ : Addr).add k)) _ _ c9 (c - k) it (S1.out.keep h.1.1.bel)
    rwa [decide_eq_true rfl, len1] at this
  have CS2 : Hid (∀ W : World, (Both w W q q2 l ∧ W.cell? ((⟨pb, po, ps⟩ : Addr).add k) = some (.string x)) → Calls Try.prog 18 #[.pointer (some ⟨q, 0, none⟩), .int .i64 ((k : Int) - (n : Int)), .int .i64 (-1)] W fun e w' => ∃ A c, e = .returned (.slice A (n - k) c) ∧ IsTx w' A (l.drop k) c ∧ Below W.heap.size W w') := fun W h => by
    have := f_slice h.1.1 (by have := NN.out; have := LN.out; omega) ((k : Int) - (n : Int)) (-1) (by omega) (by omega) (by omega) (by omega)
    rwa [cut_tail l k n (by have := NN.out; have := LN.out; omega) LN.out, len2] at this
  have TS2 : Hid (∀ (W : World) (A9 : Option Addr) (c9 : Nat), IsTx W A9 (l.drop k) c9 → (Both w W q q2 l ∧ W.cell? ((⟨pb, po, ps⟩ : Addr).add k) = some (.string x)) → Calls Try.prog 12 #[.slice A9 (n - k) c9, .slice (some ((⟨pb, po, ps⟩ : Addr).add k)) (n - k) (c - k)] W fun e w' => e = .returned (.bool true) ∧ Below W.heap.size W w') := fun W A9 c9 it h => by
    have s2 := S2.out.keep h.1.1.bel
    rw [← dk.out] at s2
    have := texts_any W A9 (some ((⟨pb, po, ps⟩ : Addr).add k)) _ _ c9 (c - k) it s2
    rwa [decide_eq_true rfl, len2] at this
  have CLEN : Hid (∀ W : World, (Both w W q q2 l ∧ W.cell? ((⟨pb, po, ps⟩ : Addr).add k) = some (.string x)) → Calls Try.prog 10 #[.pointer (some ⟨q2, 0, none⟩)] W fun e w' => e = .returned (.int .i64 (n : Int)) ∧ w' = W) := fun W h => by
    have := f_len h.1.2
    rwa [← LN.out] at this
  obtain ⟨u, hu⟩ : ∃ u, u = n / 8 := ⟨_, rfl⟩
  have u1 : (n : Int).tdiv 8 = (u : Int) := by rw [hu]; rfl
  have u2 : (n : Int) / 8 = (u : Int) := by rw [hu]; rfl
  have u0 : (0 : Int) ≤ (u : Int) := by omega
  have u9 : (u : Int) ≤ 100 := by omega
  have i8 : (k : Int) ≤ (n : Int) := by omega
  have i9 : (n : Int) ≤ (c : Int) := by omega
  have wu : IntKind.i64.wrap (u : Int) = (u : Int) := by rw [IntKind.wrap_i64]; omega
  have wu2 : IntKind.i64.wrap ((u : Int) + 2) = (u : Int) + 2 := by rw [IntKind.wrap_i64]; omega
  have CCH : Hid (∀ W : World, (Both w W q q2 l ∧ W.cell? ((⟨pb, po, ps⟩ : Addr).add k) = some (.string x)) → Calls Try.prog 11 #[.pointer (some ⟨q2, 0, none⟩)] W fun e w' => (∃ z : Nat, e = .returned (.int .i64 (z : Int)) ∧ (z : Int) ≤ (u : Int) + 2) ∧ w' = W) := fun W h => by
    refine (f_chunks h.1.2).mono ?_
    rintro e w' ⟨⟨z, rfl, hz⟩, rfl⟩
    rw [← LN.out, ← hu] at hz
    exact ⟨⟨z, rfl, by omega⟩, rfl⟩
  clear len1 len2 ek1 hu cx7 F1 F2 F3 F4 F5 F6 G3 G4 G5 G6 C1 C3 C4 C5 C6 OF OF2 ITX S1 S2 CX AT SZ lc lc9
  go_wp2_with fail
  simp only [List.append_eq, List.cons_append, List.nil_append]
  go_region_held3 (fun W => Both w W q q2 l ∧ W.cell? ((⟨pb, po, ps⟩ : Addr).add k) = some (.string x)) (first | exact KEEP.out _ _ (Below.refl _ _).drew S7.out | exact KEEP.out _ _ (by assumption) (by assumption) | assumption) (first
    | (go_at_call 7; refine (told_any _).mono ?_; rintro e w8 ⟨rfl, hb8⟩)
    | (go_at_call 13; with_reducible refine (CALL.out _ (by assumption)).mono ?_; rintro e w9 ⟨A9, c9, rfl, it9, hb9⟩)
    | (go_at_call 12; with_reducible refine (TALL.out _ _ _ (by assumption) (by assumption)).mono ?_; rintro e w10 ⟨rfl, hb10⟩)
    | (go_at_call 18; with_reducible refine (CS1.out _ (by assumption)).mono ?_; rintro e w11 ⟨A11, c11, rfl, it11, hb11⟩)
    | (go_at_call 12; with_reducible refine (TS1.out _ _ _ (by assumption) (by assumption)).mono ?_; rintro e w12 ⟨rfl, hb12⟩)
    | (go_at_call 18; with_reducible refine (CS2.out _ (by assumption)).mono ?_; rintro e w13 ⟨A13, c13, rfl, it13, hb13⟩)
    | (go_at_call 12; with_reducible refine (TS2.out _ _ _ (by assumption) (by assumption)).mono ?_; rintro e w14 ⟨rfl, hb14⟩)
    | (go_at_call 10; with_reducible refine (CLEN.out _ (by assumption)).mono ?_; rintro e w15 ⟨rfl, rfl⟩)
    | (go_at_call 11; with_reducible refine (CCH.out _ (by assumption)).mono ?_; rintro e w16 ⟨⟨z, rfl, hz⟩, rfl⟩))
  have hS : Both w w16 q q2 l ∧ w16.cell? ((⟨pb, po, ps⟩ : Addr).add k) = some (.string x) := by assumption
  have HS := Lib.hid hS.1.1.bel
  clear hS
  go_wp2_with fail
  go_ret
  exact ⟨by simp, HS.out⟩
end Go.Proofs.Yteghokakjonblaa
