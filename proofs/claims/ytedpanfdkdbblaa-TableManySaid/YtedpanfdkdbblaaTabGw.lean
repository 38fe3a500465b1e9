/- The walk of the law TableGrows. -/
import Derived.Test.YtedpanfdkdbblaaTabGrows
namespace Go.Proofs.Ytedpanfdkdbblaa
open Go.RowKit
set_option linter.unusedVariables false
section
variable {R : TabR}
theorem nm_size (i : Nat) : (⟨(nm i).toArray⟩ : ByteArray).size = 3 := rfl
theorem nm_data (i : Nat) : (⟨(nm i).toArray⟩ : ByteArray).data.toList = nm i := rfl
theorem put_at (O : TabOk R) {w0 W : World} {p : Addr} {m : Nat} (i : Nat) (h : TSt R w0 W p ⟨row i, i⟩ m) (hi : i ≤ 999) :
    Calls Try.prog 17 #[.pointer (some p), .string ⟨(nm i).toArray⟩, .int .i64 (i : Int)] W fun e w' => e = .returned (.tuple #[.int .i64 0, .bool false]) ∧ ∃ m', TSt R w0 w' p ⟨row (i + 1), i + 1⟩ m' := by
  have hv : pair (TabM.was (row i) (nm i)) (TabM.is (row i) (nm i)) = .tuple #[.int .i64 0, .bool false] := by
    unfold TabM.was TabM.is pair
    rw [get_row i i (by omega) (by omega), if_neg (by omega)]; rfl
  have q := h.step fun F hr => O.put hr ⟨(nm i).toArray⟩ (i : Int) (by rw [nm_size]; decide) (by show (row i).length ≤ 1000; rw [row_length]; omega)
  rw [nm_data, hv, put_row i hi] at q
  exact q.mono fun e w' ⟨he, m', hm, _⟩ => ⟨he, m', hm⟩
theorem get_at (O : TabOk R) {w0 W : World} {p : Addr} {m : Nat} (i g j : Nat) (h : TSt R w0 W p ⟨row i, g⟩ m) (hi : i ≤ 1000) (hj : j < i) :
    Calls Try.prog 19 #[.pointer (some p), .string ⟨(nm j).toArray⟩] W fun e w' => e = .returned (.tuple #[.int .i64 (j : Int), .bool true]) ∧ ∃ m', TSt R w0 w' p ⟨row i, g⟩ m' := by
  have q := h.step fun F hr => O.get hr ⟨(nm j).toArray⟩ (by rw [nm_size]; decide)
  rw [nm_data, was_row i j hi hj] at q
  exact q.mono fun e w' ⟨he, m', hm, _⟩ => ⟨he, m', hm⟩
theorem del_at (O : TabOk R) {w0 W : World} {p : Addr} {m : Nat} (c g : Nat) (h : TSt R w0 W p ⟨row (c + 1), g⟩ m) (hc : c ≤ 999) :
    Calls Try.prog 20 #[.pointer (some p), .string ⟨(nm c).toArray⟩] W fun e w' => e = .returned (.tuple #[.int .i64 (c : Int), .bool true]) ∧ ∃ m', TSt R w0 w' p ⟨row c, g⟩ m' := by
  have q := h.step fun F hr => O.del hr ⟨(nm c).toArray⟩ (by rw [nm_size]; decide)
  rw [nm_data, was_row (c + 1) c (by omega) (by omega), del_row c g hc] at q
  exact q.mono fun e w' ⟨he, m', hm, _⟩ => ⟨he, m', hm⟩
theorem step_at (O : TabOk R) {w0 W : World} {p : Addr} {T : TabM.T} {m : Nat} (h : TSt R w0 W p T m) (s : ByteArray) (hs : s.size ≤ 64) :
    Calls Try.prog 19 #[.pointer (some p), .string s] W fun e w' => (∃ v, e = .returned v) ∧ ∃ m', TSt R w0 w' p T m' ∧ m' ≤ m - 1 := by
  have q := h.step fun F hr => O.get hr s hs
  exact q.mono fun e w' ⟨he, m', hm, hg⟩ => ⟨⟨_, he⟩, m', hm, hg⟩
theorem work_at (O : TabOk R) {w0 W : World} {p : Addr} {T : TabM.T} {m : Nat} (h : TSt R w0 W p T m) :
    Calls Try.prog 12 #[.pointer (some p)] W fun e w' => (∃ k : Nat, e = .returned (.int .i64 (k : Int)) ∧ k ≤ 8) ∧ TSt R w0 w' p T m := by
  obtain ⟨F, hr, -⟩ := h.1
  exact (O.work hr).mono fun e w' ⟨⟨v, he, k, hv, hk⟩, hb⟩ => ⟨⟨k, by rw [he, hv], hk⟩, h.keep O hb⟩
theorem slots_at (O : TabOk R) {w0 W : World} {p : Addr} {T : TabM.T} {m : Nat} (h : TSt R w0 W p T m) :
    Calls Try.prog 11 #[.pointer (some p)] W fun e w' => (∃ k : Nat, e = .returned (.int .i64 (k : Int)) ∧ k ≤ 16 + 8 * T.great) ∧ TSt R w0 w' p T m := by
  obtain ⟨F, hr, -⟩ := h.1
  exact (O.slots hr).mono fun e w' ⟨⟨v, he, k, hv, hk⟩, hb⟩ => ⟨⟨k, by rw [he, hv], hk⟩, h.keep O hb⟩
theorem moving_at (O : TabOk R) {w0 W : World} {p : Addr} {T : TabM.T} {m : Nat} (h : TSt R w0 W p T m) :
    Calls Try.prog 21 #[.pointer (some p)] W fun e w' => e = .returned (.bool (decide (0 < m))) ∧ TSt R w0 w' p T m := by
  obtain ⟨F, hr, -⟩ := h.1
  exact (O.moving hr).mono fun e w' ⟨⟨v, he, hv⟩, hb⟩ => ⟨by rw [he, hv], h.keep O hb⟩
theorem len_at (O : TabOk R) {w0 W : World} {p : Addr} {T : TabM.T} {m : Nat} (n : Nat) (h : TSt R w0 W p T m) (hn : T.l.length = n) :
    Calls Try.prog 10 #[.pointer (some p)] W fun e w' => e = .returned (.int .i64 (n : Int)) ∧ TSt R w0 w' p T m := by
  obtain ⟨F, hr, -⟩ := h.1
  exact (O.len hr).mono fun e w' ⟨⟨v, he, hv⟩, hb⟩ => ⟨by rw [he, hv, hn], h.keep O hb⟩
theorem names_at (O : TabOk R) {w0 W : World} {p : Addr} {T : TabM.T} {m : Nat} (n : Nat) (h : TSt R w0 W p T m) (hn : T.l.length = n) :
    Calls Try.prog 14 #[.pointer (some p)] W fun e w' => (∃ A c, e = .returned (.slice A n c)) ∧ TSt R w0 w' p T m := by
  obtain ⟨F, hr, -⟩ := h.1
  refine (O.names hr).mono fun e w' ⟨⟨v, l, he, ⟨A, c, hv, _⟩, hp, _⟩, hb⟩ => ⟨⟨A, c, ?_⟩, h.keep O hb⟩
  have hl := hp.length_eq
  rw [TabM.names, List.length_map, hn] at hl
  rw [he, hv, hl]
theorem told_at (O : TabOk R) {w0 W : World} {p : Addr} {T : TabM.T} {m : Nat} (h : TSt R w0 W p T m) :
    Calls Try.prog 8 #[] W fun e w' => e = .returned (.bool true) ∧ TSt R w0 w' p T m :=
  (told_any O W).mono fun e w' ⟨he, hb⟩ => ⟨he, h.keep O hb⟩
theorem nm_at (O : TabOk R) {w0 W : World} {p : Addr} {T : TabM.T} {m : Nat} (i : Nat) (h : TSt R w0 W p T m) (hi : i ≤ 1000) :
    Calls Try.prog 22 #[.int .i64 (i : Int)] W fun e w' => e = .returned (.string ⟨(nm i).toArray⟩) ∧ TSt R w0 w' p T m :=
  (name_any i hi W).mono fun e w' ⟨he, hb⟩ => ⟨he, h.keep O hb⟩
end
set_option maxRecDepth 20000 in
set_option maxHeartbeats 8000000 in
theorem grows_walk {R : TabR} (O : TabOk R) (n keep : Int) (w : World) :
    Calls Try.prog 6 #[.int .i64 n, .int .i64 keep] w fun e w' => e = .returned (.bool true) ∧ Below w.heap.size w w' := by
  have OO := Lib.hid O
  clear O
  obtain ⟨k0, hk0, ek⟩ := mod_lt n 300 (by decide) (by decide)
  have ek' : wrap64 ((IntKind.u64.wrap n).tmod 300) = (k0 : Int) := ek
  obtain ⟨kk, hkk⟩ : ∃ kk : Nat, kk = k0 + 1 := ⟨_, rfl⟩
  have hk1 : (1 : Int) + (k0 : Int) = (kk : Int) := by omega
  have kk1 : (1 : Int) ≤ (kk : Int) := by omega
  have kk2 : (kk : Int) ≤ 300 := by omega
  have KK : Hid (1 ≤ kk ∧ kk ≤ 300) := by show 1 ≤ kk ∧ kk ≤ 300; omega
  clear ek hkk hk0
  go_enter Try.func6, Try.ntmps6
  go_wp2_with fail
  go_at_call 7
  refine (tst_new OO.out w w (Below.refl _ w)).mono ?_
  rintro e w1 ⟨p, m1, rfl, h1⟩
  have H1 := Lib.hid h1
  clear h1
  go_wp2_with fail
  go_loopw [8] (fun i wr => ∃ (j m : Nat), j ≤ kk ∧ i = .int .i64 j ∧ TSt R w wr p ⟨row j, j⟩ m) (fun i _ => kk - (intOf i).toNat)
  case atStart => exact ⟨0, m1, Nat.zero_le _, rfl, H1.out⟩
  case round =>
    obtain ⟨i, m, hi, rfl, hst⟩ := hrel
    have HS := Lib.hid hst
    have i0 : (0 : Int) ≤ (i : Int) := by omega
    have i9 : (i : Int) ≤ 300 := by omega
    clear hst
    by_cases hlt : i < kk
    · have i1 : (i : Int) < (kk : Int) := by omega
      obtain ⟨j, hj, ej⟩ : ∃ j : Nat, j < i + 1 ∧ ((i : Int) * 7).tmod ((i : Int) + 1) = (j : Int) := by
        rw [Int.tmod_eq_emod_of_nonneg (by omega)]
        have p1 := Int.emod_nonneg ((i : Int) * 7) (show (i : Int) + 1 ≠ 0 by omega)
        have p2 := Int.emod_lt_of_pos ((i : Int) * 7) (show (0 : Int) < (i : Int) + 1 by omega)
        exact ⟨(((i : Int) * 7) % ((i : Int) + 1)).toNat, by omega, by omega⟩
      have LT : Hid (i ≤ 999 ∧ i ≤ 1000 ∧ i + 1 ≤ 1000 ∧ j ≤ 1000 ∧ j < i + 1) := by show i ≤ 999 ∧ i ≤ 1000 ∧ i + 1 ≤ 1000 ∧ j ≤ 1000 ∧ j < i + 1; omega
      have j0 : (0 : Int) ≤ (j : Int) := by omega
      have j9 : (j : Int) ≤ 300 := by omega
      clear hj
      go_wp2_with fail
      go_at_call 22
      refine (nm_at OO.out i HS.out LT.out.2.1).mono ?_
      rintro e w2 ⟨rfl, h2⟩
      have H2 := Lib.hid h2
      clear h2
      go_wp2_with fail
      go_at_call 17
      refine (put_at OO.out i H2.out LT.out.1).mono ?_
      rintro e w3 ⟨rfl, m3, h3⟩
      have H3 := Lib.hid h3
      clear h3
      go_wp2_with fail
      go_at_call 12
      refine (work_at OO.out H3.out).mono ?_
      rintro e w4 ⟨⟨q, rfl, hq⟩, h4⟩
      have H4 := Lib.hid h4
      have q1 : (q : Int) ≤ 8 := by omega
      clear h4 hq
      go_wp2_with fail
      go_at_call 11
      refine (slots_at OO.out H4.out).mono ?_
      rintro e w5 ⟨⟨z, rfl, hz⟩, h5⟩
      have H5 := Lib.hid h5
      have z1 : (z : Int) ≤ 16 + 8 * ((i : Int) + 1) := by have : z ≤ 16 + 8 * (i + 1) := hz; omega
      clear h5 hz
      go_wp2_with fail
      go_at_call 22
      refine (nm_at OO.out j H5.out LT.out.2.2.2.1).mono ?_
      rintro e w6 ⟨rfl, h6⟩
      have H6 := Lib.hid h6
      clear h6
      go_wp2_with fail
      go_at_call 19
      refine (get_at OO.out (i + 1) (i + 1) j H6.out LT.out.2.2.1 LT.out.2.2.2.2).mono ?_
      rintro e w7 ⟨rfl, m7, h7⟩
      have H7 := Lib.hid h7
      clear h7
      go_wp2_with fail
      go_roundw
      case rel => exact ⟨i + 1, m7, hlt, by go_num, H7.out⟩
      case measure => simp [intOf]; omega
    · have i1 : (kk : Int) ≤ (i : Int) := by omega
      obtain rfl : i = kk := by omega
      obtain ⟨mm, hmm, em⟩ := mod_lt keep i KK.out.1 (by have := KK.out.2; omega)
      have mm0 : (0 : Int) ≤ (mm : Int) := by omega
      have mm1 : (mm : Int) < (i : Int) := by omega
      have ML : Hid (mm < i) := hmm
      clear hmm i1
      go_wp2_with fail
      rw [em]
      go_loopw [13] (fun v wr => ∃ (c m : Nat) (x : Int), mm ≤ c ∧ c ≤ i ∧ x = (c : Int) - 1 ∧ v = .int .i64 x ∧ TSt R w wr p ⟨row c, i⟩ m) (fun v _ => (intOf v + 1).toNat)
      case atStart => exact ⟨i, m, _, Nat.le_of_lt ML.out, Nat.le_refl _, rfl, rfl, HS.out⟩
      case round =>
        obtain ⟨c, m', x, hc1, hc2, hx, rfl, hst⟩ := hrel
        have HS2 := Lib.hid hst
        clear hst
        by_cases hcm : mm < c
        · obtain ⟨d, rfl⟩ : ∃ d, c = d + 1 := ⟨c - 1, by omega⟩
          obtain rfl : x = (d : Int) := by omega
          have d0 : (mm : Int) ≤ (d : Int) := by omega
          have d00 : (0 : Int) ≤ (d : Int) := by omega
          have d1 : (d : Int) ≤ 300 := by omega
          have LT : Hid (d ≤ 999 ∧ d ≤ 1000 ∧ mm ≤ d ∧ d ≤ i) := by show d ≤ 999 ∧ d ≤ 1000 ∧ mm ≤ d ∧ d ≤ i; omega
          clear hx hc1 hc2 hcm
          go_wp2_with fail
          go_at_call 22
          refine (nm_at OO.out d HS2.out LT.out.2.1).mono ?_
          rintro e w2 ⟨rfl, h2⟩
          have H2 := Lib.hid h2
          clear h2
          go_wp2_with fail
          go_at_call 20
          refine (del_at OO.out d i H2.out LT.out.1).mono ?_
          rintro e w3 ⟨rfl, m3, h3⟩
          have H3 := Lib.hid h3
          clear h3
          go_wp2_with fail
          go_at_call 12
          refine (work_at OO.out H3.out).mono ?_
          rintro e w4 ⟨⟨q, rfl, hq⟩, h4⟩
          have H4 := Lib.hid h4
          have q1 : (q : Int) ≤ 8 := by omega
          clear h4 hq
          go_wp2_with fail
          go_roundw
          case rel => exact ⟨d, m3, _, LT.out.2.2.1, LT.out.2.2.2, rfl, rfl, H4.out⟩
          case measure => simp [intOf]
        · obtain rfl : c = mm := by omega
          have x1 : x < (c : Int) := by omega
          have RS : Hid (m' ≤ 4000) := by
            show m' ≤ 4000
            obtain ⟨⟨F, hr, _⟩, _⟩ := HS2.out
            have r := OO.out.rest hr
            rw [show (TabM.T.mk (row c) i).l = row c from rfl, row_length] at r
            have := KK.out.2
            have := ML.out
            have r2 : m' ≤ c + (16 + 8 * i) := r
            omega
          obtain ⟨mm, hcc⟩ : ∃ mm, c = mm := ⟨_, rfl⟩
          subst hcc
          clear hx hc1 hc2 hcm
          go_wp2_with fail
          go_loopw [16] (fun v wr => ∃ (j q : Nat), j ≤ 6000 ∧ v = .int .i64 j ∧ TSt R w wr p ⟨row c, i⟩ q ∧ q ≤ 4000 - j) (fun v _ => 6000 - (intOf v).toNat)
          case atStart => exact ⟨0, m', Nat.zero_le _, rfl, HS2.out, RS.out⟩
          case round =>
            obtain ⟨j, q, hj, rfl, hst, hq⟩ := hrel
            have HQ0 := Lib.hid hst
            have j0 : (0 : Int) ≤ (j : Int) := by omega
            clear hst
            by_cases hj6 : j < 6000
            · have j1 : (j : Int) < 6000 := by omega
              by_cases hq0 : 0 < q
              · have QL : Hid (q ≤ 4000 - j ∧ j + 1 ≤ 6000 ∧ ∀ q', q' ≤ q - 1 → q' ≤ 4000 - (j + 1)) := ⟨hq, hj6, fun q' h => by omega⟩
                have dq : decide (0 < q) = true := decide_eq_true hq0
                clear hq hj hj6 hq0
                go_wp2_with fail
                go_at_call 21
                refine (moving_at OO.out HQ0.out).mono ?_
                rintro e u1 ⟨rfl, t1⟩
                have T1 := Lib.hid t1
                clear t1
                rw [dq]
                go_wp2_with fail
                go_at_call 19
                refine (step_at OO.out T1.out ⟨#[110, 111, 110, 101]⟩ (by decide)).mono ?_
                rintro e u2 ⟨⟨v, rfl⟩, q2, t2, hq2⟩
                have T2 := Lib.hid t2
                have Q2 := Lib.hid (QL.out.2.2 q2 hq2)
                clear t2 hq2
                go_wp2_with fail
                go_roundw
                case rel => exact ⟨j + 1, q2, QL.out.2.1, by go_num, T2.out, Q2.out⟩
                case measure => simp [intOf]; omega
              · obtain rfl : q = 0 := by omega
                clear hq hj hj6 hq0
                go_wp2_with fail
                go_at_call 21
                refine (moving_at OO.out HQ0.out).mono ?_
                rintro e u0 ⟨rfl, t0⟩
                have HQ := Lib.hid t0
                clear t0
                rw [show decide (0 < 0) = false from rfl]
                go_wp2_with fail
                go_at_call 8
                refine (told_at OO.out HQ.out).mono ?_
                rintro e u1 ⟨rfl, t1⟩
                have T1 := Lib.hid t1
                clear t1
                go_wp2_with fail
                go_at_call 21
                refine (moving_at OO.out T1.out).mono ?_
                rintro e u2 ⟨rfl, t2⟩
                have T2 := Lib.hid t2
                clear t2
                rw [show decide (0 < 0) = false from rfl]
                go_wp2_with fail
                go_at_call 10
                refine (len_at OO.out c T2.out (row_length c)).mono ?_
                rintro e u3 ⟨rfl, t3⟩
                have T3 := Lib.hid t3
                clear t3
                go_wp2_with fail
                go_at_call 14
                refine (names_at OO.out c T3.out (row_length c)).mono ?_
                rintro e u4 ⟨⟨A, cc, rfl⟩, t4⟩
                have T4 := Lib.hid t4
                clear t4
                go_wp2_with fail
                go_ret
                exact ⟨by first | rfl | simp, T4.out.2⟩
            · obtain rfl : j = 6000 := by omega
              obtain rfl : q = 0 := by omega
              clear j0
              have HQ := HQ0
              clear hq hj hj6
              go_wp2_with fail
              go_at_call 8
              refine (told_at OO.out HQ.out).mono ?_
              rintro e u1 ⟨rfl, t1⟩
              have T1 := Lib.hid t1
              clear t1
              go_wp2_with fail
              go_at_call 21
              refine (moving_at OO.out T1.out).mono ?_
              rintro e u2 ⟨rfl, t2⟩
              have T2 := Lib.hid t2
              clear t2
              rw [show decide (0 < 0) = false from rfl]
              go_wp2_with fail
              go_at_call 10
              refine (len_at OO.out c T2.out (row_length c)).mono ?_
              rintro e u3 ⟨rfl, t3⟩
              have T3 := Lib.hid t3
              clear t3
              go_wp2_with fail
              go_at_call 14
              refine (names_at OO.out c T3.out (row_length c)).mono ?_
              rintro e u4 ⟨⟨A, cc, rfl⟩, t4⟩
              have T4 := Lib.hid t4
              clear t4
              go_wp2_with fail
              go_ret
              exact ⟨by first | rfl | simp, T4.out.2⟩
end Go.Proofs.Ytedpanfdkdbblaa
