/- The walk of the law ChunkParts. -/
import Derived.Test.YteghokakjonblaaChLaw
namespace Go.Proofs.Yteghokakjonblaa
open Go.RowKit Go.Lib
set_option linter.unusedVariables false
theorem front_nat (n a : Nat) : front n (a : Int) = a := by unfold front; rw [if_neg (by omega)]
theorem cut_nat (l : List ByteArray) (a b : Nat) (h : a ≤ b) (hb : b < l.length) : cut l (a : Int) (b : Int) = (l.drop a).take (b - a + 1) := by
  unfold cut
  rw [front_nat, front_nat, if_neg (by omega), show (max (a : Int) 0).toNat = a by omega, show (min (b : Int) ((l.length : Int) - 1)).toNat = b by omega]
theorem cut_rest (l : List ByteArray) (b n : Nat) (hn : n = l.length) (hb : b < n) : cut l ((b : Int) + 1) (n : Int) = l.drop (b + 1) := by
  unfold cut
  rw [show (b : Int) + 1 = ((b + 1 : Nat) : Int) by omega, front_nat, front_nat]
  by_cases h : b + 1 = n
  · rw [if_pos (by omega), List.drop_eq_nil_of_le (by omega)]
  · rw [if_neg (by omega), show (max ((b + 1 : Nat) : Int) 0).toNat = b + 1 by omega, List.take_of_length_le]
    rw [List.length_drop]; omega
theorem cut_first (l : List ByteArray) (a : Nat) (h : 0 < a) (ha : a ≤ l.length) : cut l 0 ((a : Int) - 1) = l.take a := by
  have := cut_nat l 0 (a - 1) (by omega) (by omega)
  rw [show ((a - 1 : Nat) : Int) = (a : Int) - 1 by omega, List.drop_zero, show a - 1 - 0 + 1 = a by omega] at this
  exact this
theorem three_parts (l : List ByteArray) (a b : Nat) (h : a ≤ b) : l.take a ++ (l.drop a).take (b - a + 1) ++ l.drop (b + 1) = l := by
  have e : l.drop (b + 1) = (l.drop a).drop (b - a + 1) := by rw [List.drop_drop]; congr 1; omega
  rw [e, List.append_assoc, List.take_append_drop, List.take_append_drop]
theorem fits_nat {n a : Nat} (h : a ≤ n) : fits n (a : Int) = true := decide_eq_true ⟨by omega, by omega⟩
theorem out_again (l : List ByteArray) (a : Nat) (s : ByteArray) (n : Nat) (ha : a ≤ l.length) (hn : n = l.length) : atOf (insAt l a s) ((a : Int) - (n : Int) - 1) = s ∧ there (insAt l a s).length ((a : Int) - (n : Int) - 1) = true ∧ remOf (insAt l a s) ((a : Int) - (n : Int) - 1) = l := by
  have len : (insAt l a s).length = n + 1 := by rw [insAt_len _ _ _ ha, hn]
  have fr : front (n + 1) ((a : Int) - (n : Int) - 1) = (a : Int) := by unfold front; rw [if_pos (by omega)]; omega
  have th : there (n + 1) ((a : Int) - (n : Int) - 1) = true := by unfold there; rw [fr]; exact decide_eq_true ⟨by omega, by omega⟩
  have tl : (l.take a).length = a := by rw [List.length_take]; omega
  unfold atOf remOf
  rw [len, if_pos th, if_pos th, fr, Int.toNat_natCast]
  refine ⟨?_, th, ?_⟩
  · unfold insAt
    rw [List.getElem?_append_right (by omega), tl, Nat.sub_self]
    rfl
  · unfold insAt
    rw [List.eraseIdx_append_of_length_le (by omega), tl, Nat.sub_self]
    show l.take a ++ l.drop a = l
    exact List.take_append_drop _ _
set_option maxRecDepth 20000 in
set_option maxHeartbeats 8000000 in
theorem parts_walk (w : World) (A : Option Addr) (l : List ByteArray) (c : Nat) (itx : IsTx w A l c) (hsz : ∀ x ∈ l, x.size ≤ 281474976710656) (i j : Int) (s : ByteArray) (hs : s.size ≤ 9223372036854775807) :
    Calls Try.prog 5 #[.slice A l.length c, .int .i64 i, .int .i64 j, .string s] w fun e w' => e = .returned (.bool true) ∧ Below w.heap.size w w' := by
  have q0 := run_nil_row
  obtain ⟨n, en⟩ : ∃ n, n = l.length := ⟨_, rfl⟩
  have lc := itx.2.1
  have lc9 := itx.2.2.1
  unfold maxLen at lc9
  rw [← en] at lc ⊢
  have n0 : (0 : Int) ≤ (n : Int) := by omega
  have n9 : (n : Int) ≤ 9223372036854775807 := by omega
  have s0 : (0 : Int) ≤ (s.size : Int) := by omega
  have s9 : (s.size : Int) ≤ 9223372036854775807 := by omega
  have ITX := Lib.hid itx
  have LN := Lib.hid en
  have SZ := Lib.hid hsz
  clear itx hsz en hs
  by_cases h1 : 150 < n
  · have h1' : (150 : Int) < (n : Int) := by omega
    go_enter Try.func5, Try.ntmps5
    go_wp2_with fail
    go_at_call 7
    with_reducible refine (told_any _).mono ?_
    rintro e w1 ⟨rfl, hb⟩
    have HB := Lib.hid hb
    clear hb
    go_wp2_with fail
    go_ret
    exact ⟨rfl, HB.out⟩
  have h1' : (n : Int) ≤ 150 := by omega
  by_cases h2 : n = 0
  · have h2' : (n : Int) = 0 := by omega
    go_enter Try.func5, Try.ntmps5
    go_wp2_with fail
    go_at_call 7
    with_reducible refine (told_any _).mono ?_
    rintro e w1 ⟨rfl, hb⟩
    have HB := Lib.hid hb
    clear hb
    go_wp2_with fail
    go_ret
    exact ⟨rfl, HB.out⟩
  have h2' : ¬ ((n : Int) = 0) := by omega
  by_cases h3 : 20 < s.size
  · have h3' : (20 : Int) < (s.size : Int) := by omega
    go_enter Try.func5, Try.ntmps5
    go_wp2_with fail
    go_at_call 7
    with_reducible refine (told_any _).mono ?_
    rintro e w1 ⟨rfl, hb⟩
    have HB := Lib.hid hb
    clear hb
    go_wp2_with fail
    go_ret
    exact ⟨rfl, HB.out⟩
  have h3' : (s.size : Int) ≤ 20 := by omega
  have d1 : decide ((150 : Int) < (n : Int)) = false := decide_eq_false (by omega)
  have d2 : ((n : Int) == 0) = false := by simpa using h2'
  have d3 : decide ((20 : Int) < (s.size : Int)) = false := decide_eq_false (by omega)
  obtain ⟨a', ha, ea⟩ := mod_lt i n (by omega) (by omega)
  obtain ⟨b', hb, eb⟩ := mod_lt j n (by omega) (by omega)
  have un : IntKind.u64.wrap (n : Int) = (n : Int) := by rw [IntKind.wrap_u64]; omega
  have a0 : (0 : Int) ≤ (a' : Int) := by omega
  have a9 : (a' : Int) ≤ 150 := by omega
  have b0 : (0 : Int) ≤ (b' : Int) := by omega
  have b9 : (b' : Int) ≤ 150 := by omega
  have OF := Lib.hid (of_any w A l c ITX.out (by have := LN.out; omega) SZ.out)
  rw [← LN.out] at OF
  have NB : Hid (a' < n ∧ b' < n ∧ 1 ≤ n ∧ n ≤ 150 ∧ s.size ≤ 20) := by show a' < n ∧ b' < n ∧ 1 ≤ n ∧ n ≤ 150 ∧ s.size ≤ 20; omega
  clear h1 h2 h3 ha hb lc lc9
  by_cases sw : b' < a'
  · have sw' : (b' : Int) < (a' : Int) := by omega
    have SW := Lib.hid sw
    clear sw
    go_enter Try.func5, Try.ntmps5
    go_wp2_with fail
    go_at_call 8
    with_reducible refine OF.out.mono ?_
    rintro e w1 ⟨q, rfl, f1⟩
    have F1 := Lib.hid f1
    clear f1
    go_wp2_with fail
    go_region
    rw [ea, eb]
    replace F1 := Lib.hid (F1.out.keep (Below.refl _ _).drew)
    obtain ⟨a, xa⟩ : ∃ a, a = b' := ⟨_, rfl⟩
    obtain ⟨b, xb⟩ : ∃ b, b = a' := ⟨_, rfl⟩
    rw [← xa] at b0 b9 sw'
    rw [← xb] at a0 a9 sw'
    have NN : Hid (a ≤ b ∧ b < n ∧ 1 ≤ n ∧ n ≤ 150 ∧ s.size ≤ 20) := by show a ≤ b ∧ b < n ∧ 1 ≤ n ∧ n ≤ 150 ∧ s.size ≤ 20; have := NB.out; have := SW.out; omega
    rw [← xa, ← xb]
    clear xa xb NB SW ea eb
    have C1 := Lib.hid (f_slice F1.out (by have := NN.out; have := LN.out; omega) (a : Int) (b : Int) (by omega) (by omega) (by omega) (by omega))
    rw [cut_nat l a b (by have := NN.out; omega) (by have := NN.out; have := LN.out; omega)] at C1
    obtain ⟨X1, e1⟩ : ∃ X1, X1 = (l.drop a).take (b - a + 1) := ⟨_, rfl⟩
    rw [← e1] at C1
    have E1 := Lib.hid e1
    clear e1
    have C2 := Lib.hid (fun W (h : Fresh w W q l) => f_slice h (by have := NN.out; have := LN.out; omega) ((b : Int) + 1) (n : Int) (by omega) (by omega) (by omega) (by omega))
    rw [cut_rest l b n LN.out (by have := NN.out; omega)] at C2
    obtain ⟨X2, e2⟩ : ∃ X2, X2 = l.drop (b + 1) := ⟨_, rfl⟩
    rw [← e2] at C2
    have E2 := Lib.hid e2
    clear e2
    go_wp2_with fail
    go_at_call 18
    with_reducible refine C1.out.mono ?_
    rintro e w2 ⟨A1, c1, rfl, it1, hb2⟩
    have F2 := Lib.hid (F1.out.keep hb2)
    have IT1' := Lib.hid it1
    clear hb2 it1
    go_wp2_with fail
    go_at_call 18
    with_reducible refine (C2.out _ F2.out).mono ?_
    rintro e w3 ⟨A2, c2, rfl, it2, hb3⟩
    have F3 := Lib.hid (F2.out.keep hb3)
    have IT1'' := Lib.hid (IT1'.out.keep hb3)
    have IT2' := Lib.hid it2
    clear hb3 it2 C1 C2 IT1'
    obtain ⟨X3, e3⟩ : ∃ X3, X3 = l.take a := ⟨_, rfl⟩
    have E3 := Lib.hid e3
    by_cases a1 : 0 < a
    · have a1' : (0 : Int) < (a : Int) := by omega
      have C3 := Lib.hid (f_slice F3.out (by have := NN.out; have := LN.out; omega) 0 ((a : Int) - 1) (by omega) (by omega) (by omega) (by omega))
      rw [cut_first l a a1 (by have := NN.out; have := LN.out; omega), ← e3] at C3
      clear e3
      go_wp2_with fail
      go_at_call 18
      with_reducible refine C3.out.mono ?_
      rintro e w4 ⟨A3, c3, rfl, it3, hb4⟩
      have F4 := Lib.hid (F3.out.keep hb4)
      have IT1 := Lib.hid (IT1''.out.keep hb4)
      have IT2 := Lib.hid (IT2'.out.keep hb4)
      have IT3 := Lib.hid (it3.keep ((Below.refl _ w4).alloc (Nat.le_refl _) (.cells #[] 9)))
      clear hb4 it3 C3 IT1'' IT2'
      have OW0 := Lib.hid (own_no_tx w4 w4.heap.size (Nat.le_refl _))
      have B5 : Hid (Below w4.heap.size w4 (w4.alloc (.cells #[] 9))) := (Below.refl _ w4).alloc (Nat.le_refl _) _
      have LENS : Hid (X1.length ≤ 200 ∧ X2.length ≤ 200 ∧ X3.length ≤ 200) := by
        show X1.length ≤ 200 ∧ X2.length ≤ 200 ∧ X3.length ≤ 200
        have := NN.out
        have := LN.out
        rw [E1.out, E2.out, E3.out, List.length_take, List.length_take, List.length_drop, List.length_drop]
        omega
      have SUM : Hid (X3 ++ X1 ++ X2 = l) := by
        show X3 ++ X1 ++ X2 = l
        rw [E1.out, E2.out, E3.out]
        exact three_parts l a b (by have := NN.out; omega)
      go_wp2_with (first
        | (at_builtin; (refine wpList_append_own_texts rfl (.tmp 70) (.tmp 71) rfl w4.heap.size _ _ rfl OW0.out A3 c3 _ X3 rfl rfl IT3.out.1 IT3.out.2.2.2 (by have := LENS.out; simp only [List.length_nil]; omega) (by show w4.heap.size ≤ (w4.heap.push _).size; simp) ?_); intro v6 w6 own6 b6; have O6 := Lib.hid own6; have B6 : Hid (Below w4.heap.size w4 w6) := B5.out.trans b6; clear own6 b6)
        | (at_builtin; (refine wpList_append_own_texts rfl (.tmp 72) (.tmp 73) rfl w4.heap.size _ _ rfl O6.out A1 c1 _ X1 rfl rfl IT1.out.1 (IT1.out.keep B6.out).2.2.2 (by have := LENS.out; simp only [List.nil_append]; omega) B6.out.size ?_); intro v7 w7 own7 b7; have O7 := Lib.hid own7; have B7 : Hid (Below w4.heap.size w4 w7) := B6.out.trans b7; clear own7 b7)
        | (at_builtin; (refine wpList_append_own_texts rfl (.tmp 74) (.tmp 75) rfl w4.heap.size _ _ rfl O7.out A2 c2 _ X2 rfl rfl IT2.out.1 (IT2.out.keep B7.out).2.2.2 (by have := LENS.out; simp only [List.nil_append, List.length_append]; omega) B7.out.size ?_); intro v8 w8 own8 b8; have B8 : Hid (Below w4.heap.size w4 w8) := B7.out.trans b8; rw [List.nil_append, SUM.out] at own8; obtain ⟨A8, c8, rfl, it8, -⟩ := OwnTx.slice own8; have IT8 := Lib.hid it8; clear own8 it8 b8)
        | fail)
      have TX : Hid (Calls Try.prog 12 #[.slice A8 l.length c8, .slice A l.length c] w8 fun e w' => e = .returned (.bool true) ∧ Below w8.heap.size w8 w') := by
        have := texts_any w8 A8 A l l c8 c IT8.out ((ITX.out.keep F4.out.bel).keep B8.out)
        rwa [decide_eq_true rfl] at this
      rw [← LN.out] at TX ⊢
      go_at_call 12
      with_reducible refine TX.out.mono ?_
      rintro e w9 ⟨rfl, hb9⟩
      have F9 := Lib.hid ((F4.out.keep B8.out).keep hb9)
      clear hb9
      have C9 := Lib.hid (f_ins F9.out (by have := NN.out; have := LN.out; omega) (a : Int) (by omega) (by omega) s (by have := NN.out; omega))
      rw [fits_nat (by have := NN.out; have := LN.out; omega), if_pos rfl, Int.toNat_natCast] at C9
      go_wp2_with fail
      go_at_call 19
      with_reducible refine C9.out.mono ?_
      rintro e w10 ⟨rfl, f10⟩
      have F10 := Lib.hid f10
      clear f10
      have C10 := Lib.hid (f_rem F10.out (by rw [insAt_len _ _ _ (by have := NN.out; have := LN.out; omega)]; have := NN.out; have := LN.out; omega) ((a : Int) - (n : Int) - 1) (by omega) (by omega))
      rw [(out_again l a s n (by have := NN.out; have := LN.out; omega) LN.out).1, (out_again l a s n (by have := NN.out; have := LN.out; omega) LN.out).2.1, (out_again l a s n (by have := NN.out; have := LN.out; omega) LN.out).2.2] at C10
      go_wp2_with fail
      go_at_call 20
      with_reducible refine C10.out.mono ?_
      rintro e w11 ⟨rfl, f11⟩
      have F11 := Lib.hid f11
      clear f11
      go_wp2_with fail
      go_at_call 7
      with_reducible refine (told_any _).mono ?_
      rintro e w12 ⟨rfl, hb12⟩
      have F12 := Lib.hid (F11.out.keep hb12)
      clear hb12
      have C12 := Lib.hid (f_all F12.out (by have := NN.out; have := LN.out; omega))
      go_wp2_with fail
      go_at_call 13
      with_reducible refine C12.out.mono ?_
      rintro e w13 ⟨A13, c13, rfl, it13, hb13⟩
      have F13 := Lib.hid (F12.out.keep hb13)
      have T13 : Hid (Calls Try.prog 12 #[.slice A13 l.length c13, .slice A l.length c] w13 fun e w' => e = .returned (.bool true) ∧ Below w13.heap.size w13 w') := by
        have := texts_any w13 A13 A l l c13 c it13 (ITX.out.keep F13.out.bel)
        rwa [decide_eq_true rfl] at this
      rw [← LN.out] at T13 ⊢
      clear it13 hb13
      go_wp2_with fail
      go_at_call 12
      with_reducible refine T13.out.mono ?_
      rintro e w14 ⟨rfl, hb14⟩
      have F14 := Lib.hid (F13.out.keep hb14)
      clear hb14
      go_wp2_with fail
      go_ret
      exact ⟨rfl, F14.out.bel⟩
    · have a1' : (a : Int) ≤ 0 := by omega
      have e30 : X3 = [] := by rw [e3, show a = 0 by omega]; rfl
      have IT3 : Hid (IsTx (w3.alloc (.cells #[] 9)) none X3 0) := by
        show IsTx _ _ _ _
        rw [e30]
        exact ⟨fun _ => rfl, Nat.le_refl _, Nat.zero_le _, fun i hi => absurd hi (by simp)⟩
      have X3z : X3.length = 0 := by rw [e30]; rfl
      have F4 := F3
      have IT1 := IT1''
      have IT2 := IT2'
      clear e3 e30 IT1'' IT2' F3
      have OW0 := Lib.hid (own_no_tx w3 w3.heap.size (Nat.le_refl _))
      have B5 : Hid (Below w3.heap.size w3 (w3.alloc (.cells #[] 9))) := (Below.refl _ w3).alloc (Nat.le_refl _) _
      have LENS : Hid (X1.length ≤ 200 ∧ X2.length ≤ 200 ∧ X3.length ≤ 200) := by
        show X1.length ≤ 200 ∧ X2.length ≤ 200 ∧ X3.length ≤ 200
        have := NN.out
        have := LN.out
        rw [E1.out, E2.out, E3.out, List.length_take, List.length_take, List.length_drop, List.length_drop]
        omega
      have SUM : Hid (X3 ++ X1 ++ X2 = l) := by
        show X3 ++ X1 ++ X2 = l
        rw [E1.out, E2.out, E3.out]
        exact three_parts l a b (by have := NN.out; omega)
      go_wp2_with (first
        | (at_builtin; (refine wpList_append_own_texts rfl (.tmp 70) (.tmp 71) rfl w3.heap.size _ _ rfl OW0.out none 0 0 X3 rfl X3z IT3.out.1 IT3.out.2.2.2 (by have := LENS.out; simp only [List.length_nil]; omega) (by show w3.heap.size ≤ (w3.heap.push _).size; simp) ?_); intro v6 w6 own6 b6; have O6 := Lib.hid own6; have B6 : Hid (Below w3.heap.size w3 w6) := B5.out.trans b6; clear own6 b6)
        | (at_builtin; (refine wpList_append_own_texts rfl (.tmp 72) (.tmp 73) rfl w3.heap.size _ _ rfl O6.out A1 c1 _ X1 rfl rfl IT1.out.1 (IT1.out.keep B6.out).2.2.2 (by have := LENS.out; simp only [List.nil_append]; omega) B6.out.size ?_); intro v7 w7 own7 b7; have O7 := Lib.hid own7; have B7 : Hid (Below w3.heap.size w3 w7) := B6.out.trans b7; clear own7 b7)
        | (at_builtin; (refine wpList_append_own_texts rfl (.tmp 74) (.tmp 75) rfl w3.heap.size _ _ rfl O7.out A2 c2 _ X2 rfl rfl IT2.out.1 (IT2.out.keep B7.out).2.2.2 (by have := LENS.out; simp only [List.nil_append, List.length_append]; omega) B7.out.size ?_); intro v8 w8 own8 b8; have B8 : Hid (Below w3.heap.size w3 w8) := B7.out.trans b8; rw [List.nil_append, SUM.out] at own8; obtain ⟨A8, c8, rfl, it8, -⟩ := OwnTx.slice own8; have IT8 := Lib.hid it8; clear own8 it8 b8)
        | fail)
      have TX : Hid (Calls Try.prog 12 #[.slice A8 l.length c8, .slice A l.length c] w8 fun e w' => e = .returned (.bool true) ∧ Below w8.heap.size w8 w') := by
        have := texts_any w8 A8 A l l c8 c IT8.out ((ITX.out.keep F4.out.bel).keep B8.out)
        rwa [decide_eq_true rfl] at this
      rw [← LN.out] at TX ⊢
      go_at_call 12
      with_reducible refine TX.out.mono ?_
      rintro e w9 ⟨rfl, hb9⟩
      have F9 := Lib.hid ((F4.out.keep B8.out).keep hb9)
      clear hb9
      have C9 := Lib.hid (f_ins F9.out (by have := NN.out; have := LN.out; omega) (a : Int) (by omega) (by omega) s (by have := NN.out; omega))
      rw [fits_nat (by have := NN.out; have := LN.out; omega), if_pos rfl, Int.toNat_natCast] at C9
      go_wp2_with fail
      go_at_call 19
      with_reducible refine C9.out.mono ?_
      rintro e w10 ⟨rfl, f10⟩
      have F10 := Lib.hid f10
      clear f10
      have C10 := Lib.hid (f_rem F10.out (by rw [insAt_len _ _ _ (by have := NN.out; have := LN.out; omega)]; have := NN.out; have := LN.out; omega) ((a : Int) - (n : Int) - 1) (by omega) (by omega))
      rw [(out_again l a s n (by have := NN.out; have := LN.out; omega) LN.out).1, (out_again l a s n (by have := NN.out; have := LN.out; omega) LN.out).2.1, (out_again l a s n (by have := NN.out; have := LN.out; omega) LN.out).2.2] at C10
      go_wp2_with fail
      go_at_call 20
      with_reducible refine C10.out.mono ?_
      rintro e w11 ⟨rfl, f11⟩
      have F11 := Lib.hid f11
      clear f11
      go_wp2_with fail
      go_at_call 7
      with_reducible refine (told_any _).mono ?_
      rintro e w12 ⟨rfl, hb12⟩
      have F12 := Lib.hid (F11.out.keep hb12)
      clear hb12
      have C12 := Lib.hid (f_all F12.out (by have := NN.out; have := LN.out; omega))
      go_wp2_with fail
      go_at_call 13
      with_reducible refine C12.out.mono ?_
      rintro e w13 ⟨A13, c13, rfl, it13, hb13⟩
      have F13 := Lib.hid (F12.out.keep hb13)
      have T13 : Hid (Calls Try.prog 12 #[.slice A13 l.length c13, .slice A l.length c] w13 fun e w' => e = .returned (.bool true) ∧ Below w13.heap.size w13 w') := by
        have := texts_any w13 A13 A l l c13 c it13 (ITX.out.keep F13.out.bel)
        rwa [decide_eq_true rfl] at this
      rw [← LN.out] at T13 ⊢
      clear it13 hb13
      go_wp2_with fail
      go_at_call 12
      with_reducible refine T13.out.mono ?_
      rintro e w14 ⟨rfl, hb14⟩
      have F14 := Lib.hid (F13.out.keep hb14)
      clear hb14
      go_wp2_with fail
      go_ret
      exact ⟨rfl, F14.out.bel⟩
  · have sw' : (a' : Int) ≤ (b' : Int) := by omega
    have NN : Hid (a' ≤ b' ∧ b' < n ∧ 1 ≤ n ∧ n ≤ 150 ∧ s.size ≤ 20) := by show a' ≤ b' ∧ b' < n ∧ 1 ≤ n ∧ n ≤ 150 ∧ s.size ≤ 20; have := NB.out; omega
    clear sw
    go_enter Try.func5, Try.ntmps5
    go_wp2_with fail
    go_at_call 8
    with_reducible refine OF.out.mono ?_
    rintro e w1 ⟨q, rfl, f1⟩
    have F1 := Lib.hid f1
    clear f1
    go_wp2_with fail
    go_region
    rw [ea, eb]
    replace F1 := Lib.hid (F1.out.keep (Below.refl _ _).drew)
    obtain ⟨a, xa⟩ : ∃ a, a = a' := ⟨_, rfl⟩
    obtain ⟨b, xb⟩ : ∃ b, b = b' := ⟨_, rfl⟩
    rw [← xa] at a0 a9 sw' NN
    rw [← xb] at b0 b9 sw' NN
    rw [← xa, ← xb]
    clear xa xb NB ea eb
    have C1 := Lib.hid (f_slice F1.out (by have := NN.out; have := LN.out; omega) (a : Int) (b : Int) (by omega) (by omega) (by omega) (by omega))
    rw [cut_nat l a b (by have := NN.out; omega) (by have := NN.out; have := LN.out; omega)] at C1
    obtain ⟨X1, e1⟩ : ∃ X1, X1 = (l.drop a).take (b - a + 1) := ⟨_, rfl⟩
    rw [← e1] at C1
    have E1 := Lib.hid e1
    clear e1
    have C2 := Lib.hid (fun W (h : Fresh w W q l) => f_slice h (by have := NN.out; have := LN.out; omega) ((b : Int) + 1) (n : Int) (by omega) (by omega) (by omega) (by omega))
    rw [cut_rest l b n LN.out (by have := NN.out; omega)] at C2
    obtain ⟨X2, e2⟩ : ∃ X2, X2 = l.drop (b + 1) := ⟨_, rfl⟩
    rw [← e2] at C2
    have E2 := Lib.hid e2
    clear e2
    go_wp2_with fail
    go_at_call 18
    with_reducible refine C1.out.mono ?_
    rintro e w2 ⟨A1, c1, rfl, it1, hb2⟩
    have F2 := Lib.hid (F1.out.keep hb2)
    have IT1' := Lib.hid it1
    clear hb2 it1
    go_wp2_with fail
    go_at_call 18
    with_reducible refine (C2.out _ F2.out).mono ?_
    rintro e w3 ⟨A2, c2, rfl, it2, hb3⟩
    have F3 := Lib.hid (F2.out.keep hb3)
    have IT1'' := Lib.hid (IT1'.out.keep hb3)
    have IT2' := Lib.hid it2
    clear hb3 it2 C1 C2 IT1'
    obtain ⟨X3, e3⟩ : ∃ X3, X3 = l.take a := ⟨_, rfl⟩
    have E3 := Lib.hid e3
    by_cases a1 : 0 < a
    · have a1' : (0 : Int) < (a : Int) := by omega
      have C3 := Lib.hid (f_slice F3.out (by have := NN.out; have := LN.out; omega) 0 ((a : Int) - 1) (by omega) (by omega) (by omega) (by omega))
      rw [cut_first l a a1 (by have := NN.out; have := LN.out; omega), ← e3] at C3
      clear e3
      go_wp2_with fail
      go_at_call 18
      with_reducible refine C3.out.mono ?_
      rintro e w4 ⟨A3, c3, rfl, it3, hb4⟩
      have F4 := Lib.hid (F3.out.keep hb4)
      have IT1 := Lib.hid (IT1''.out.keep hb4)
      have IT2 := Lib.hid (IT2'.out.keep hb4)
      have IT3 := Lib.hid (it3.keep ((Below.refl _ w4).alloc (Nat.le_refl _) (.cells #[] 9)))
      clear hb4 it3 C3 IT1'' IT2'
      have OW0 := Lib.hid (own_no_tx w4 w4.heap.size (Nat.le_refl _))
      have B5 : Hid (Below w4.heap.size w4 (w4.alloc (.cells #[] 9))) := (Below.refl _ w4).alloc (Nat.le_refl _) _
      have LENS : Hid (X1.length ≤ 200 ∧ X2.length ≤ 200 ∧ X3.length ≤ 200) := by
        show X1.length ≤ 200 ∧ X2.length ≤ 200 ∧ X3.length ≤ 200
        have := NN.out
        have := LN.out
        rw [E1.out, E2.out, E3.out, List.length_take, List.length_take, List.length_drop, List.length_drop]
        omega
      have SUM : Hid (X3 ++ X1 ++ X2 = l) := by
        show X3 ++ X1 ++ X2 = l
        rw [E1.out, E2.out, E3.out]
        exact three_parts l a b (by have := NN.out; omega)
      go_wp2_with (first
        | (at_builtin; (refine wpList_append_own_texts rfl (.tmp 70) (.tmp 71) rfl w4.heap.size _ _ rfl OW0.out A3 c3 _ X3 rfl rfl IT3.out.1 IT3.out.2.2.2 (by have := LENS.out; simp only [List.length_nil]; omega) (by show w4.heap.size ≤ (w4.heap.push _).size; simp) ?_); intro v6 w6 own6 b6; have O6 := Lib.hid own6; have B6 : Hid (Below w4.heap.size w4 w6) := B5.out.trans b6; clear own6 b6)
        | (at_builtin; (refine wpList_append_own_texts rfl (.tmp 72) (.tmp 73) rfl w4.heap.size _ _ rfl O6.out A1 c1 _ X1 rfl rfl IT1.out.1 (IT1.out.keep B6.out).2.2.2 (by have := LENS.out; simp only [List.nil_append]; omega) B6.out.size ?_); intro v7 w7 own7 b7; have O7 := Lib.hid own7; have B7 : Hid (Below w4.heap.size w4 w7) := B6.out.trans b7; clear own7 b7)
        | (at_builtin; (refine wpList_append_own_texts rfl (.tmp 74) (.tmp 75) rfl w4.heap.size _ _ rfl O7.out A2 c2 _ X2 rfl rfl IT2.out.1 (IT2.out.keep B7.out).2.2.2 (by have := LENS.out; simp only [List.nil_append, List.length_append]; omega) B7.out.size ?_); intro v8 w8 own8 b8; have B8 : Hid (Below w4.heap.size w4 w8) := B7.out.trans b8; rw [List.nil_append, SUM.out] at own8; obtain ⟨A8, c8, rfl, it8, -⟩ := OwnTx.slice own8; have IT8 := Lib.hid it8; clear own8 it8 b8)
        | fail)
      have TX : Hid (Calls Try.prog 12 #[.slice A8 l.length c8, .slice A l.length c] w8 fun e w' => e = .returned (.bool true) ∧ Below w8.heap.size w8 w') := by
        have := texts_any w8 A8 A l l c8 c IT8.out ((ITX.out.keep F4.out.bel).keep B8.out)
        rwa [decide_eq_true rfl] at this
      rw [← LN.out] at TX ⊢
      go_at_call 12
      with_reducible refine TX.out.mono ?_
      rintro e w9 ⟨rfl, hb9⟩
      have F9 := Lib.hid ((F4.out.keep B8.out).keep hb9)
      clear hb9
      have C9 := Lib.hid (f_ins F9.out (by have := NN.out; have := LN.out; omega) (a : Int) (by omega) (by omega) s (by have := NN.out; omega))
      rw [fits_nat (by have := NN.out; have := LN.out; omega), if_pos rfl, Int.toNat_natCast] at C9
      go_wp2_with fail
      go_at_call 19
      with_reducible refine C9.out.mono ?_
      rintro e w10 ⟨rfl, f10⟩
      have F10 := Lib.hid f10
      clear f10
      have C10 := Lib.hid (f_rem F10.out (by rw [insAt_len _ _ _ (by have := NN.out; have := LN.out; omega)]; have := NN.out; have := LN.out; omega) ((a : Int) - (n : Int) - 1) (by omega) (by omega))
      rw [(out_again l a s n (by have := NN.out; have := LN.out; omega) LN.out).1, (out_again l a s n (by have := NN.out; have := LN.out; omega) LN.out).2.1, (out_again l a s n (by have := NN.out; have := LN.out; omega) LN.out).2.2] at C10
      go_wp2_with fail
      go_at_call 20
      with_reducible refine C10.out.mono ?_
      rintro e w11 ⟨rfl, f11⟩
      have F11 := Lib.hid f11
      clear f11
      go_wp2_with fail
      go_at_call 7
      with_reducible refine (told_any _).mono ?_
      rintro e w12 ⟨rfl, hb12⟩
      have F12 := Lib.hid (F11.out.keep hb12)
      clear hb12
      have C12 := Lib.hid (f_all F12.out (by have := NN.out; have := LN.out; omega))
      go_wp2_with fail
      go_at_call 13
      with_reducible refine C12.out.mono ?_
      rintro e w13 ⟨A13, c13, rfl, it13, hb13⟩
      have F13 := Lib.hid (F12.out.keep hb13)
      have T13 : Hid (Calls Try.prog 12 #[.slice A13 l.length c13, .slice A l.length c] w13 fun e w' => e = .returned (.bool true) ∧ Below w13.heap.size w13 w') := by
        have := texts_any w13 A13 A l l c13 c it13 (ITX.out.keep F13.out.bel)
        rwa [decide_eq_true rfl] at this
      rw [← LN.out] at T13 ⊢
      clear it13 hb13
      go_wp2_with fail
      go_at_call 12
      with_reducible refine T13.out.mono ?_
      rintro e w14 ⟨rfl, hb14⟩
      have F14 := Lib.hid (F13.out.keep hb14)
      clear hb14
      go_wp2_with fail
      go_ret
      exact ⟨rfl, F14.out.bel⟩
    · have a1' : (a : Int) ≤ 0 := by omega
      have e30 : X3 = [] := by rw [e3, show a = 0 by omega]; rfl
      have IT3 : Hid (IsTx (w3.alloc (.cells #[] 9)) none X3 0) := by
        show IsTx _ _ _ _
        rw [e30]
        exact ⟨fun _ => rfl, Nat.le_refl _, Nat.zero_le _, fun i hi => absurd hi (by simp)⟩
      have X3z : X3.length = 0 := by rw [e30]; rfl
      have F4 := F3
      have IT1 := IT1''
      have IT2 := IT2'
      clear e3 e30 IT1'' IT2' F3
      have OW0 := Lib.hid (own_no_tx w3 w3.heap.size (Nat.le_refl _))
      have B5 : Hid (Below w3.heap.size w3 (w3.alloc (.cells #[] 9))) := (Below.refl _ w3).alloc (Nat.le_refl _) _
      have LENS : Hid (X1.length ≤ 200 ∧ X2.length ≤ 200 ∧ X3.length ≤ 200) := by
        show X1.length ≤ 200 ∧ X2.length ≤ 200 ∧ X3.length ≤ 200
        have := NN.out
        have := LN.out
        rw [E1.out, E2.out, E3.out, List.length_take, List.length_take, List.length_drop, List.length_drop]
        omega
      have SUM : Hid (X3 ++ X1 ++ X2 = l) := by
        show X3 ++ X1 ++ X2 = l
        rw [E1.out, E2.out, E3.out]
        exact three_parts l a b (by have := NN.out; omega)
      go_wp2_with (first
        | (at_builtin; (refine wpList_append_own_texts rfl (.tmp 70) (.tmp 71) rfl w3.heap.size _ _ rfl OW0.out none 0 0 X3 rfl X3z IT3.out.1 IT3.out.2.2.2 (by have := LENS.out; simp only [List.length_nil]; omega) (by show w3.heap.size ≤ (w3.heap.push _).size; simp) ?_); intro v6 w6 own6 b6; have O6 := Lib.hid own6; have B6 : Hid (Below w3.heap.size w3 w6) := B5.out.trans b6; clear own6 b6)
        | (at_builtin; (refine wpList_append_own_texts rfl (.tmp 72) (.tmp 73) rfl w3.heap.size _ _ rfl O6.out A1 c1 _ X1 rfl rfl IT1.out.1 (IT1.out.keep B6.out).2.2.2 (by have := LENS.out; simp only [List.nil_append]; omega) B6.out.size ?_); intro v7 w7 own7 b7; have O7 := Lib.hid own7; have B7 : Hid (Below w3.heap.size w3 w7) := B6.out.trans b7; clear own7 b7)
        | (at_builtin; (refine wpList_append_own_texts rfl (.tmp 74) (.tmp 75) rfl w3.heap.size _ _ rfl O7.out A2 c2 _ X2 rfl rfl IT2.out.1 (IT2.out.keep B7.out).2.2.2 (by have := LENS.out; simp only [List.nil_append, List.length_append]; omega) B7.out.size ?_); intro v8 w8 own8 b8; have B8 : Hid (Below w3.heap.size w3 w8) := B7.out.trans b8; rw [List.nil_append, SUM.out] at own8; obtain ⟨A8, c8, rfl, it8, -⟩ := OwnTx.slice own8; have IT8 := Lib.hid it8; clear own8 it8 b8)
        | fail)
      have TX : Hid (Calls Try.prog 12 #[.slice A8 l.length c8, .slice A l.length c] w8 fun e w' => e = .returned (.bool true) ∧ Below w8.heap.size w8 w') := by
        have := texts_any w8 A8 A l l c8 c IT8.out ((ITX.out.keep F4.out.bel).keep B8.out)
        rwa [decide_eq_true rfl] at this
      rw [← LN.out] at TX ⊢
      go_at_call 12
      with_reducible refine TX.out.mono ?_
      rintro e w9 ⟨rfl, hb9⟩
      have F9 := Lib.hid ((F4.out.keep B8.out).keep hb9)
      clear hb9
      have C9 := Lib.hid (f_ins F9.out (by have := NN.out; have := LN.out; omega) (a : Int) (by omega) (by omega) s (by have := NN.out; omega))
      rw [fits_nat (by have := NN.out; have := LN.out; omega), if_pos rfl, Int.toNat_natCast] at C9
      go_wp2_with fail
      go_at_call 19
      with_reducible refine C9.out.mono ?_
      rintro e w10 ⟨rfl, f10⟩
      have F10 := Lib.hid f10
      clear f10
      have C10 := Lib.hid (f_rem F10.out (by rw [insAt_len _ _ _ (by have := NN.out; have := LN.out; omega)]; have := NN.out; have := LN.out; omega) ((a : Int) - (n : Int) - 1) (by omega) (by omega))
      rw [(out_again l a s n (by have := NN.out; have := LN.out; omega) LN.out).1, (out_again l a s n (by have := NN.out; have := LN.out; omega) LN.out).2.1, (out_again l a s n (by have := NN.out; have := LN.out; omega) LN.out).2.2] at C10
      go_wp2_with fail
      go_at_call 20
      with_reducible refine C10.out.mono ?_
      rintro e w11 ⟨rfl, f11⟩
      have F11 := Lib.hid f11
      clear f11
      go_wp2_with fail
      go_at_call 7
      with_reducible refine (told_any _).mono ?_
      rintro e w12 ⟨rfl, hb12⟩
      have F12 := Lib.hid (F11.out.keep hb12)
      clear hb12
      have C12 := Lib.hid (f_all F12.out (by have := NN.out; have := LN.out; omega))
      go_wp2_with fail
      go_at_call 13
      with_reducible refine C12.out.mono ?_
      rintro e w13 ⟨A13, c13, rfl, it13, hb13⟩
      have F13 := Lib.hid (F12.out.keep hb13)
      have T13 : Hid (Calls Try.prog 12 #[.slice A13 l.length c13, .slice A l.length c] w13 fun e w' => e = .returned (.bool true) ∧ Below w13.heap.size w13 w') := by
        have := texts_any w13 A13 A l l c13 c it13 (ITX.out.keep F13.out.bel)
        rwa [decide_eq_true rfl] at this
      rw [← LN.out] at T13 ⊢
      clear it13 hb13
      go_wp2_with fail
      go_at_call 12
      with_reducible refine T13.out.mono ?_
      rintro e w14 ⟨rfl, hb14⟩
      have F14 := Lib.hid (F13.out.keep hb14)
      clear hb14
      go_wp2_with fail
      go_ret
      exact ⟨rfl, F14.out.bel⟩
end Go.Proofs.Yteghokakjonblaa
