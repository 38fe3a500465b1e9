/- The walk of the law RecordJoins, out of what is asked of package record. -/
import Derived.Test.YtmikdnjjnadimaaRecTx
import Derived.Test.YtmikdnjjnadimaaSlices
import Derived.Test.YtmikdnjjnadimaaConv
import Derived.Deep.RegionHeld3
namespace Go.Proofs.Ytmikdnjjnadimaa
open Go.RowKit
set_option linter.unusedVariables false
theorem whole_last (l : List (List UInt8)) (h : l ≠ []) : Rec.whole l ((Rec.frs l).length - 1) = l.length - 1 := by
  have hl : 0 < l.length := List.length_pos_iff.2 h
  have hb := Rec.whole_le l ((Rec.frs l).length - 1)
  have e : Rec.frs l = Rec.frs (l.take (l.length - 1)) ++ Rec.fr (l[l.length - 1]'(by omega)) := by
    rw [← Rec.frs_snoc]
    congr 1
    conv => lhs; rw [← List.take_length (l := l), show l.length = (l.length - 1) + 1 by omega, List.take_add_one, List.getElem?_eq_getElem (by omega)]
    rfl
  have el := congrArg List.length e
  rw [List.length_append, Rec.fr_length] at el
  have h1 := Rec.whole_iff l ((Rec.frs l).length - 1) (l.length - 1) (by omega)
  rw [show l.length - 1 + 1 = l.length by omega, List.take_length] at h1
  have h2 : ¬ (l.length - 1 < Rec.whole l ((Rec.frs l).length - 1)) := fun k => by
    have := h1.2 k
    omega
  by_cases h3 : l.length = 1
  · omega
  · have h4 := Rec.whole_iff l ((Rec.frs l).length - 1) (l.length - 2) (by omega)
    rw [show l.length - 2 + 1 = l.length - 1 by omega] at h4
    have := h4.1 (by omega)
    omega
theorem last_lt (l : List (List UInt8)) (h : l ≠ []) : (Rec.frs (l.take (l.length - 1))).length < (Rec.frs l).length := by
  have hl : 0 < l.length := List.length_pos_iff.2 h
  have e : l = l.take (l.length - 1) ++ [l[l.length - 1]'(by omega)] := by
    conv => lhs; rw [← List.take_length (l := l), show l.length = (l.length - 1) + 1 by omega, List.take_add_one, List.getElem?_eq_getElem (by omega)]
    rfl
  have el := congrArg (fun x => (Rec.frs x).length) e
  simp only [Rec.frs_snoc, List.length_append, Rec.fr_length] at el
  omega
def JInv (w : World) (l : List ByteArray) (N : Nat) (vs i : Value) (wr : World) : Prop :=
  ∃ (j : Nat) (xs : ByteArray), (CAt l j xs.data.toList ∧ j ≤ N) ∧ vs = .string xs ∧ i = .int .i64 j ∧ Below w.heap.size w wr
theorem tx_get {l : List ByteArray} {j i : Nat} (h : i < l.length) (hj : i < j) : (tx l j)[i]? = some l[i].data.toList := by
  unfold tx
  rw [List.getElem?_take, if_pos hj, List.getElem?_map, List.getElem?_eq_getElem h]
  rfl
set_option maxRecDepth 20000 in
set_option maxHeartbeats 8000000 in
theorem joins_walk (R : RecOk) (A B : Option Addr) (l ms : List ByteArray) (n m ca cb : Nat) (hn : l.length = n) (hm : ms.length = m) (cut : Bool) (hA : A = none → ca = 0) (hB : B = none → cb = 0) (w : World) (hl : Row w A (l.map Value.string)) (hl2 : Row w B (ms.map Value.string)) :
    Calls Try.prog 7 #[.slice A n ca, .slice B m cb, .bool cut] w fun e w' => e = .returned (.bool true) ∧ Below w.heap.size w w' := by
  have RR := Lib.hid R
  have KL := Lib.hid hl
  have KM := Lib.hid hl2
  have HN := Lib.hid hn
  have HM := Lib.hid hm
  clear R hA hB hl hl2 hn hm
  rcases Nat.lt_or_ge 6 n with hn6 | hn6 <;> rcases Nat.lt_or_ge 6 m with hm6 | hm6
  · have nz : 6 < (n : Int) := by omega
    have mz : 6 < (m : Int) := by omega
    go_enter Try.func7, Try.ntmps7
    go_wp2_with fail
    go_loopw [7, 9] (fun vs i wr => JInv w l 6 vs i wr) (fun _ i _ => 6 - (intOf i).toNat)
    case atStart => exact ⟨0, ⟨#[]⟩, ⟨⟨Nat.zero_le _, by simp [tx], rfl, Nat.le_refl _⟩, Nat.zero_le _⟩, rfl, rfl, Below.refl _ _⟩
    case round =>
      obtain ⟨j, xs, ⟨hk1, hj10⟩, rfl, rfl, hbw⟩ := hrel
      have HK := Lib.hid hk1
      have HJ := Lib.hid hj10
      have BW := Lib.hid hbw
      have hls : xs.size = xs.data.toList.length := by simp
      have HLS : Hid (xs.size ≤ 1848) := by show xs.size ≤ 1848; rw [hls]; have := hk1.s2; omega
      clear hk1 hbw hls
      have j0 : (0 : Int) ≤ (j : Int) := by omega
      by_cases hlt : j < 6
      · have hjn : j < n := by omega
        have j1 : (j : Int) < (n : Int) := by omega
        have j2 : (j : Int) < 6 := by omega
        obtain ⟨pA, rfl, -, cA⟩ := (KL.out.later BW.out).at_ j (by rw [HN.out]; exact hjn)
        obtain ⟨x, hx⟩ : ∃ x, x = l[j]'(by rw [HN.out]; exact hjn) := ⟨_, rfl⟩
        have HX := Lib.hid hx
        rw [← hx] at cA
        clear hx
        by_cases hsz : x.size ≤ 100
        · have z1 : (x.size : Int) ≤ 100 := by omega
          obtain ⟨W1, c1, hcv, bW1, hc1, hbs1⟩ := conv_str wr x
          have HB1 := Lib.hid hbs1
          have BW1 := Lib.hid bW1
          have HX1 := Lib.hid (show x.data.toList.length = x.size by simp)
          clear hbs1 bW1
          go_wp2_with fail
          go_at_call 10
          refine (frame_at RR.out (some ⟨wr.heap.size, 0, none⟩) x.data.toList x.size c1 _ _ HX1.out (by omega) (fun e => nomatch e) HB1.out (Nat.le_refl _)).mono ?_
          rintro e w2 ⟨⟨A2, c2, rfl, hA2, hc2, hr2⟩, hb2⟩
          have cv := convert_n c2 (x.size + 8) (by rw [Rec.fr_length, HX1.out]; omega) hr2
          have za : ¬ 9223372036854775807 < xs.size + (x.size + 8) := by have := HLS.out; omega
          have BW2 := Lib.hid (below_then BW.out (below_then BW1.out hb2))
          have hfs : (ByteArray.mk (Rec.fr x.data.toList).toArray).size = x.size + 8 := by
            show (Rec.fr x.data.toList).toArray.size = _
            rw [List.size_toArray, Rec.fr_length, HX1.out]; omega
          clear hA2 hr2 hb2 cA hcv
          have eX : Hid ((xs ++ ByteArray.mk (Rec.fr x.data.toList).toArray).data.toList = xs.data.toList ++ Rec.fr x.data.toList) := by
            show (xs ++ ByteArray.mk (Rec.fr x.data.toList).toArray).data.toList = xs.data.toList ++ Rec.fr x.data.toList
            simp
          have hnx := HK.out.next (by rw [HN.out]; exact hjn) (by rw [← HX.out]; omega)
          rw [← HX.out, ← eX.out] at hnx
          have HNX := Lib.hid hnx
          clear hnx
          go_wp2_with fail
          go_roundw
          case rel => exact ⟨j + 1, _, ⟨HNX.out, hlt⟩, rfl, by go_num, BW2.out⟩
          case measure => simp [intOf]; omega
        · have z1 : 100 < (x.size : Int) := by omega
          go_wp2_with fail
          go_at_call 9
          refine (told_any RR.out wr).mono ?_
          rintro e w2 ⟨rfl, h2⟩
          go_wp2_with fail
          go_ret
          exact ⟨rfl, below_then BW.out h2⟩
      · have HJN : Hid (j = 6) := by show j = 6; have := HJ.out; omega
        have n1 : (j : Int) < (n : Int) := by omega
        have n3 : (6 : Int) ≤ (j : Int) := by omega
        clear hlt
        go_wp2_with fail
        go_loopw [8, 12] (fun vs i wr => JInv w ms 6 vs i wr) (fun _ i _ => 6 - (intOf i).toNat)
        case atStart => exact ⟨0, ⟨#[]⟩, ⟨⟨Nat.zero_le _, by simp [tx], rfl, Nat.le_refl _⟩, Nat.zero_le _⟩, rfl, rfl, BW.out⟩
        case round =>
          obtain ⟨q, ys, ⟨hk1, hj10⟩, rfl, rfl, hbw⟩ := hrel
          have HKq := Lib.hid hk1
          have HJq := Lib.hid hj10
          have BWq := Lib.hid hbw
          have hls : ys.size = ys.data.toList.length := by simp
          have HLSq : Hid (ys.size ≤ 1848) := by show ys.size ≤ 1848; rw [hls]; have := hk1.s2; omega
          clear hk1 hbw hls
          have q0 : (0 : Int) ≤ (q : Int) := by omega
          by_cases hlt : q < 6
          · have hjn : q < m := by omega
            have j1 : (q : Int) < (m : Int) := by omega
            have j2 : (q : Int) < 6 := by omega
            obtain ⟨pA, rfl, -, cA⟩ := (KM.out.later BWq.out).at_ q (by rw [HM.out]; exact hjn)
            obtain ⟨x, hx⟩ : ∃ x, x = ms[q]'(by rw [HM.out]; exact hjn) := ⟨_, rfl⟩
            have HX := Lib.hid hx
            rw [← hx] at cA
            clear hx
            by_cases hsz : x.size ≤ 100
            · have z1 : (x.size : Int) ≤ 100 := by omega
              obtain ⟨W1, c1, hcv, bW1, hc1, hbs1⟩ := conv_str wr x
              have HB1 := Lib.hid hbs1
              have BW1 := Lib.hid bW1
              have HX1 := Lib.hid (show x.data.toList.length = x.size by simp)
              clear hbs1 bW1
              go_wp2_with fail
              go_at_call 10
              refine (frame_at RR.out (some ⟨wr.heap.size, 0, none⟩) x.data.toList x.size c1 _ _ HX1.out (by omega) (fun e => nomatch e) HB1.out (Nat.le_refl _)).mono ?_
              rintro e w2 ⟨⟨A2, c2, rfl, hA2, hc2, hr2⟩, hb2⟩
              have cv := convert_n c2 (x.size + 8) (by rw [Rec.fr_length, HX1.out]; omega) hr2
              have za : ¬ 9223372036854775807 < ys.size + (x.size + 8) := by have := HLSq.out; omega
              have BW2 := Lib.hid (below_then BWq.out (below_then BW1.out hb2))
              have hfs : (ByteArray.mk (Rec.fr x.data.toList).toArray).size = x.size + 8 := by
                show (Rec.fr x.data.toList).toArray.size = _
                rw [List.size_toArray, Rec.fr_length, HX1.out]; omega
              clear hA2 hr2 hb2 cA hcv
              have eX : Hid ((ys ++ ByteArray.mk (Rec.fr x.data.toList).toArray).data.toList = ys.data.toList ++ Rec.fr x.data.toList) := by
                show (ys ++ ByteArray.mk (Rec.fr x.data.toList).toArray).data.toList = ys.data.toList ++ Rec.fr x.data.toList
                simp
              have hnx := HKq.out.next (by rw [HM.out]; exact hjn) (by rw [← HX.out]; omega)
              rw [← HX.out, ← eX.out] at hnx
              have HNX := Lib.hid hnx
              clear hnx
              go_wp2_with fail
              go_roundw
              case rel => exact ⟨q + 1, _, ⟨HNX.out, hlt⟩, rfl, by go_num, BW2.out⟩
              case measure => simp [intOf]; omega
            · have z1 : 100 < (x.size : Int) := by omega
              go_wp2_with fail
              go_at_call 9
              refine (told_any RR.out wr).mono ?_
              rintro e w2 ⟨rfl, h2⟩
              go_wp2_with fail
              go_ret
              exact ⟨rfl, below_then BWq.out h2⟩
          · have HJNq : Hid (q = 6) := by show q = 6; have := HJq.out; omega
            have m1 : (q : Int) < (m : Int) := by omega
            have m3 : (6 : Int) ≤ (q : Int) := by omega
            clear hlt
            have za : ¬ 9223372036854775807 < xs.size + ys.size := by have := HLS.out; have := HLSq.out; omega
            obtain ⟨W1, c1, hcv, bW1, hc1, hbs1⟩ := conv_str wr (xs ++ ys)
            have hts : (xs ++ ys).size = xs.size + ys.size := by simp
            have htd : (xs ++ ys).data.toList = Rec.frs (tx l j ++ tx ms q) := by
              rw [Rec.frs_append, ← HK.out.s1, ← HKq.out.s1]
              simp
            rw [hts] at hcv hc1
            rw [htd] at hbs1
            obtain ⟨T, hT⟩ : ∃ T, xs.size + ys.size = T := ⟨_, rfl⟩
            rw [hT] at hcv hc1
            have hll : (tx l j).length = j := tx_length HK.out.j1
            have hlm : (tx ms q).length = q := tx_length HKq.out.j1
            obtain ⟨P, hP⟩ : ∃ P, j + q = P := ⟨_, rfl⟩
            have hsc : Rec.scan (Rec.frs (tx l j ++ tx ms q)) = (tx l j ++ tx ms q, T) := by
              have h := Rec.scan_frs (tx l j ++ tx ms q) [] (fun x hx => by
                rcases List.mem_append.1 hx with k | k
                · exact Nat.le_trans (HK.out.sm x k) (by decide)
                · exact Nat.le_trans (HKq.out.sm x k) (by decide))
              rw [List.append_nil, Rec.scan_nil] at h
              rw [h, ← htd]
              simp [hT]
            have HSC := Lib.hid hsc
            have HPL : Hid ((tx l j ++ tx ms q).length = P) := by show (tx l j ++ tx ms q).length = P; rw [List.length_append, hll, hlm, hP]
            have HTL : Hid ((Rec.frs (tx l j ++ tx ms q)).length = T) := by show (Rec.frs (tx l j ++ tx ms q)).length = T; rw [← htd, ← hT]; simp
            have hjn := HJN.out
            have hqn := HJNq.out
            have HTB : Hid (T ≤ 2097152) := by show T ≤ 2097152; have := HLS.out; have := HLSq.out; omega
            have HB1 := Lib.hid hbs1
            have BW1 := Lib.hid (below_then BWq.out bW1)
            have sm1 : ((P : Int) != 12) = false := by
              rw [bne_eq_false_iff_eq]; omega
            have sm2 : ((T : Int) != (xs.size : Int) + (ys.size : Int)) = false := by
              rw [bne_eq_false_iff_eq]; omega
            have HPQ := Lib.hid hP
            have ht9 : (xs.size : Int) ≤ 1848 := by have := HLS.out; omega
            have ht8 : (ys.size : Int) ≤ 1848 := by have := HLSq.out; omega
            clear hts htd hT hll hlm hP hsc hbs1 bW1 hjn hqn
            go_wp2_with fail
            go_at_call 13
            refine (scan_at RR.out (some ⟨wr.heap.size, 0, none⟩) _ T c1 _ _ (tx l j ++ tx ms q) T P HSC.out HPL.out HTL.out HTB.out (fun e => nomatch e) hc1 HB1.out (Nat.le_refl _)).mono ?_
            rintro e w2 ⟨⟨A2, c2, rfl, hA2, hc2, hr2⟩, hb2⟩
            have HR2 := Lib.hid hr2
            have BW2 := Lib.hid (below_then BW1.out hb2)
            clear hA2 hr2 hb2 hcv
            go_wp2_with fail
            have HJ6 : Hid (j ≤ 6 ∧ q ≤ 6) := by have := HJ.out; have := HJq.out; constructor <;> omega
            go_loop [17] (fun i => ∃ r : Nat, r ≤ P ∧ i = .int .i64 r) (fun i => P - (intOf i).toNat)
            case atStart => exact ⟨0, Nat.zero_le _, rfl⟩
            case round =>
              obtain ⟨r, hr, rfl⟩ := hrel
              have r0 : (0 : Int) ≤ (r : Int) := by omega
              have r9 : (r : Int) ≤ 12 := by have := HPQ.out; have := HJ6.out; omega
              by_cases hrP : r < P
              · have r1 : (r : Int) < (P : Int) := by omega
                obtain ⟨pP, u, rfl, -, cP, hby⟩ := HR2.out r (by rw [HPL.out]; exact hrP)
                obtain ⟨A3, c3, rfl, -, -, hb3⟩ := hby
                by_cases hrj : r < j
                · have hrn : r < l.length := by have := HK.out.j1; omega
                  obtain ⟨x, hx⟩ : ∃ x, x = l[r] := ⟨_, rfl⟩
                  have hget : (tx l j ++ tx ms q)[r]'(by rw [HPL.out]; exact hrP) = x.data.toList := by
                    have h1 : r < (tx l j).length := by rw [tx_length HK.out.j1]; exact hrj
                    rw [List.getElem_append_left h1, hx]
                    exact (tx_at h1).2
                  obtain ⟨pA, rfl, -, cA⟩ := (KL.out.later BW2.out).at_ r hrn
                  rw [← hx] at cA
                  rw [hget] at cP hb3
                  have hxl : x.data.toList.length = x.size := by simp
                  rw [hxl] at cP
                  have cv := convert_n c3 x.size hxl hb3
                  have r2 : (r : Int) < 6 := by have := HJN.out; omega
                  have r3 : (r : Int) < (n : Int) := by have := HN.out; omega
                  clear hb3 hget hx hxl
                  go_wp2_with fail
                  go_round
                  case rel => exact ⟨r + 1, hrP, by go_num⟩
                  case measure => simp [intOf]; omega
                · obtain ⟨I, hI⟩ : ∃ I, r - j = I := ⟨_, rfl⟩
                  have hIq : I < q := by have := HPQ.out; omega
                  have hrn : I < ms.length := by have := HKq.out.j1; omega
                  obtain ⟨x, hx⟩ : ∃ x, x = ms[I] := ⟨_, rfl⟩
                  have hget : (tx l j ++ tx ms q)[r]'(by rw [HPL.out]; exact hrP) = x.data.toList := by
                    have hl1 := tx_length HK.out.j1
                    have h1 : I < (tx ms q).length := by rw [tx_length HKq.out.j1]; exact hIq
                    rw [List.getElem_append_right (by rw [hl1]; omega)]
                    simp only [hl1, hI]
                    rw [hx]
                    exact (tx_at h1).2
                  obtain ⟨pB, rfl, -, cB⟩ := (KM.out.later BW2.out).at_ I hrn
                  rw [← hx] at cB
                  rw [hget] at cP hb3
                  have hxl : x.data.toList.length = x.size := by simp
                  rw [hxl] at cP
                  have cv := convert_n c3 x.size hxl hb3
                  have r2 : 6 ≤ (r : Int) := by have := HJN.out; omega
                  have wI : IntKind.i64.wrap ((r : Int) - 6) = (I : Int) := by
                    have := HJN.out
                    simp [IntKind.wrap, IntKind.bits, IntKind.signed]
                    omega
                  have I0 : (0 : Int) ≤ (I : Int) := by omega
                  have I1 : (I : Int) < (m : Int) := by have := HM.out; omega
                  clear hb3 hget hx hxl hI
                  go_wp2_with fail
                  go_round
                  case rel => exact ⟨r + 1, hrP, by go_num⟩
                  case measure => simp [intOf]; omega
              · have r1 : (P : Int) ≤ (r : Int) := by omega
                cases cut
                · go_wp2_with fail
                  go_at_call 9
                  refine (told_any RR.out _).mono ?_
                  rintro e w3 ⟨rfl, h3⟩
                  go_wp2_with fail
                  go_ret
                  exact ⟨rfl, below_then BW2.out h3⟩
                · by_cases hz : xs.size = 0
                  · have z1 : ((xs.size : Int) == 0) = true := by simp [hz]
                    go_wp2_with fail
                    go_at_call 9
                    refine (told_any RR.out _).mono ?_
                    rintro e w3 ⟨rfl, h3⟩
                    go_wp2_with fail
                    go_ret
                    exact ⟨rfl, below_then BW2.out h3⟩
                  · have z1 : ((xs.size : Int) == 0) = false := beq_eq_false_iff_ne.mpr (by omega)
                    obtain ⟨Z, hZ⟩ : ∃ Z, xs.size - 1 = Z := ⟨_, rfl⟩
                    have wZ : IntKind.i64.wrap ((xs.size : Int) - 1) = (Z : Int) := by
                      simp [IntKind.wrap, IntKind.bits, IntKind.signed]
                      omega
                    have k0 : (0 : Int) ≤ (Z : Int) := by omega
                    have k1 : (Z : Int) ≤ (xs.size : Int) := by omega
                    have hsz : (Rec.frs (tx l j)).length = xs.size := by rw [← HK.out.s1]; simp
                    have hne : tx l j ≠ [] := fun e => by rw [e] at hsz; simp [Rec.frs] at hsz; omega
                    have hll : (tx l j).length = j := tx_length HK.out.j1
                    have hex : (ByteArray.extract xs 0 Z).size = Z := by rw [ByteArray.size_extract]; omega
                    have hed : (ByteArray.extract xs 0 Z).data.toList = (Rec.frs (tx l j)).take Z := by
                      rw [ByteArray.data_extract, ← HK.out.s1]
                      simp
                    have hj1 : 0 < j := by rw [← hll]; exact List.length_pos_iff.2 hne
                    obtain ⟨V, hV⟩ : ∃ V, j - 1 = V := ⟨_, rfl⟩
                    have hsc := Rec.scan_cut (tx l j) Z (fun x hx => Nat.le_trans (HK.out.sm x hx) (by decide))
                    have hwl := whole_last (tx l j) hne
                    have hlt := last_lt (tx l j) hne
                    rw [hsz, hZ, hll, hV] at hwl
                    rw [hll, hV, hsz, tx_take l V j (by omega)] at hlt
                    rw [hwl, tx_take l V j (by omega)] at hsc
                    obtain ⟨E, hE⟩ : ∃ E, (Rec.frs (tx l V)).length = E := ⟨_, rfl⟩
                    rw [hE] at hsc hlt
                    obtain ⟨W3, c5, hcv, bW3, hc5, hbs3⟩ := conv_str w2 (ByteArray.extract xs 0 Z)
                    rw [hex] at hcv hc5
                    rw [hed] at hbs3
                    have HSC2 := Lib.hid hsc
                    have HB3 := Lib.hid hbs3
                    have BW3 := Lib.hid (below_then BW2.out bW3)
                    have HVL : Hid ((tx l V).length = V) := by show (tx l V).length = V; exact tx_length (by have := HK.out.j1; omega)
                    have HZL : Hid (((Rec.frs (tx l j)).take Z).length = Z) := by
                      show ((Rec.frs (tx l j)).take Z).length = Z
                      rw [List.length_take, hsz]; omega
                    have HZB : Hid (Z ≤ 2097152) := by show Z ≤ 2097152; omega
                    have e1 : (E : Int) < (xs.size : Int) := by omega
                    have v1 : ((V : Int) == 5) = true := by
                      have := HJN.out
                      rw [beq_iff_eq]; omega
                    have n9 : (0 : Int) < 6 := by have := HJN.out; omega
                    clear hsz hne hll hex hed hV hsc hwl hlt hE hbs3 bW3 hZ
                    go_wp2_with fail
                    go_at_call 13
                    refine (scan_at RR.out (some ⟨w2.heap.size, 0, none⟩) _ Z c5 _ _ (tx l V) E V HSC2.out HVL.out HZL.out HZB.out (fun e => nomatch e) hc5 HB3.out (Nat.le_refl _)).mono ?_
                    rintro e w5 ⟨⟨A5, c6, rfl, hA5, hc6, -⟩, hb5⟩
                    have BW5 := Lib.hid (below_then BW3.out hb5)
                    clear hA5 hb5 hcv
                    go_wp2_with (go_at_call 9; refine (told_any RR.out _).mono ?_; rintro e w' ⟨rfl, hb⟩)
                    go_ret
                    exact ⟨rfl, below_then BW5.out hb⟩
  · have nz : 6 < (n : Int) := by omega
    have mz : (m : Int) ≤ 6 := by omega
    go_enter Try.func7, Try.ntmps7
    go_wp2_with fail
    go_loopw [7, 9] (fun vs i wr => JInv w l 6 vs i wr) (fun _ i _ => 6 - (intOf i).toNat)
    case atStart => exact ⟨0, ⟨#[]⟩, ⟨⟨Nat.zero_le _, by simp [tx], rfl, Nat.le_refl _⟩, Nat.zero_le _⟩, rfl, rfl, Below.refl _ _⟩
    case round =>
      obtain ⟨j, xs, ⟨hk1, hj10⟩, rfl, rfl, hbw⟩ := hrel
      have HK := Lib.hid hk1
      have HJ := Lib.hid hj10
      have BW := Lib.hid hbw
      have hls : xs.size = xs.data.toList.length := by simp
      have HLS : Hid (xs.size ≤ 1848) := by show xs.size ≤ 1848; rw [hls]; have := hk1.s2; omega
      clear hk1 hbw hls
      have j0 : (0 : Int) ≤ (j : Int) := by omega
      by_cases hlt : j < 6
      · have hjn : j < n := by omega
        have j1 : (j : Int) < (n : Int) := by omega
        have j2 : (j : Int) < 6 := by omega
        obtain ⟨pA, rfl, -, cA⟩ := (KL.out.later BW.out).at_ j (by rw [HN.out]; exact hjn)
        obtain ⟨x, hx⟩ : ∃ x, x = l[j]'(by rw [HN.out]; exact hjn) := ⟨_, rfl⟩
        have HX := Lib.hid hx
        rw [← hx] at cA
        clear hx
        by_cases hsz : x.size ≤ 100
        · have z1 : (x.size : Int) ≤ 100 := by omega
          obtain ⟨W1, c1, hcv, bW1, hc1, hbs1⟩ := conv_str wr x
          have HB1 := Lib.hid hbs1
          have BW1 := Lib.hid bW1
          have HX1 := Lib.hid (show x.data.toList.length = x.size by simp)
          clear hbs1 bW1
          go_wp2_with fail
          go_at_call 10
          refine (frame_at RR.out (some ⟨wr.heap.size, 0, none⟩) x.data.toList x.size c1 _ _ HX1.out (by omega) (fun e => nomatch e) HB1.out (Nat.le_refl _)).mono ?_
          rintro e w2 ⟨⟨A2, c2, rfl, hA2, hc2, hr2⟩, hb2⟩
          have cv := convert_n c2 (x.size + 8) (by rw [Rec.fr_length, HX1.out]; omega) hr2
          have za : ¬ 9223372036854775807 < xs.size + (x.size + 8) := by have := HLS.out; omega
          have BW2 := Lib.hid (below_then BW.out (below_then BW1.out hb2))
          have hfs : (ByteArray.mk (Rec.fr x.data.toList).toArray).size = x.size + 8 := by
            show (Rec.fr x.data.toList).toArray.size = _
            rw [List.size_toArray, Rec.fr_length, HX1.out]; omega
          clear hA2 hr2 hb2 cA hcv
          have eX : Hid ((xs ++ ByteArray.mk (Rec.fr x.data.toList).toArray).data.toList = xs.data.toList ++ Rec.fr x.data.toList) := by
            show (xs ++ ByteArray.mk (Rec.fr x.data.toList).toArray).data.toList = xs.data.toList ++ Rec.fr x.data.toList
            simp
          have hnx := HK.out.next (by rw [HN.out]; exact hjn) (by rw [← HX.out]; omega)
          rw [← HX.out, ← eX.out] at hnx
          have HNX := Lib.hid hnx
          clear hnx
          go_wp2_with fail
          go_roundw
          case rel => exact ⟨j + 1, _, ⟨HNX.out, hlt⟩, rfl, by go_num, BW2.out⟩
          case measure => simp [intOf]; omega
        · have z1 : 100 < (x.size : Int) := by omega
          go_wp2_with fail
          go_at_call 9
          refine (told_any RR.out wr).mono ?_
          rintro e w2 ⟨rfl, h2⟩
          go_wp2_with fail
          go_ret
          exact ⟨rfl, below_then BW.out h2⟩
      · have HJN : Hid (j = 6) := by show j = 6; have := HJ.out; omega
        have n1 : (j : Int) < (n : Int) := by omega
        have n3 : (6 : Int) ≤ (j : Int) := by omega
        clear hlt
        go_wp2_with fail
        go_loopw [8, 12] (fun vs i wr => JInv w ms m vs i wr) (fun _ i _ => m - (intOf i).toNat)
        case atStart => exact ⟨0, ⟨#[]⟩, ⟨⟨Nat.zero_le _, by simp [tx], rfl, Nat.le_refl _⟩, Nat.zero_le _⟩, rfl, rfl, BW.out⟩
        case round =>
          obtain ⟨q, ys, ⟨hk1, hj10⟩, rfl, rfl, hbw⟩ := hrel
          have HKq := Lib.hid hk1
          have HJq := Lib.hid hj10
          have BWq := Lib.hid hbw
          have hls : ys.size = ys.data.toList.length := by simp
          have HLSq : Hid (ys.size ≤ 1848) := by show ys.size ≤ 1848; rw [hls]; have := hk1.s2; omega
          clear hk1 hbw hls
          have q0 : (0 : Int) ≤ (q : Int) := by omega
          by_cases hlt : q < m
          · have hjn : q < m := by omega
            have j1 : (q : Int) < (m : Int) := by omega
            have j2 : (q : Int) < 6 := by omega
            obtain ⟨pA, rfl, -, cA⟩ := (KM.out.later BWq.out).at_ q (by rw [HM.out]; exact hjn)
            obtain ⟨x, hx⟩ : ∃ x, x = ms[q]'(by rw [HM.out]; exact hjn) := ⟨_, rfl⟩
            have HX := Lib.hid hx
            rw [← hx] at cA
            clear hx
            by_cases hsz : x.size ≤ 100
            · have z1 : (x.size : Int) ≤ 100 := by omega
              obtain ⟨W1, c1, hcv, bW1, hc1, hbs1⟩ := conv_str wr x
              have HB1 := Lib.hid hbs1
              have BW1 := Lib.hid bW1
              have HX1 := Lib.hid (show x.data.toList.length = x.size by simp)
              clear hbs1 bW1
              go_wp2_with fail
              go_at_call 10
              refine (frame_at RR.out (some ⟨wr.heap.size, 0, none⟩) x.data.toList x.size c1 _ _ HX1.out (by omega) (fun e => nomatch e) HB1.out (Nat.le_refl _)).mono ?_
              rintro e w2 ⟨⟨A2, c2, rfl, hA2, hc2, hr2⟩, hb2⟩
              have cv := convert_n c2 (x.size + 8) (by rw [Rec.fr_length, HX1.out]; omega) hr2
              have za : ¬ 9223372036854775807 < ys.size + (x.size + 8) := by have := HLSq.out; omega
              have BW2 := Lib.hid (below_then BWq.out (below_then BW1.out hb2))
              have hfs : (ByteArray.mk (Rec.fr x.data.toList).toArray).size = x.size + 8 := by
                show (Rec.fr x.data.toList).toArray.size = _
                rw [List.size_toArray, Rec.fr_length, HX1.out]; omega
              clear hA2 hr2 hb2 cA hcv
              have eX : Hid ((ys ++ ByteArray.mk (Rec.fr x.data.toList).toArray).data.toList = ys.data.toList ++ Rec.fr x.data.toList) := by
                show (ys ++ ByteArray.mk (Rec.fr x.data.toList).toArray).data.toList = ys.data.toList ++ Rec.fr x.data.toList
                simp
              have hnx := HKq.out.next (by rw [HM.out]; exact hjn) (by rw [← HX.out]; omega)
              rw [← HX.out, ← eX.out] at hnx
              have HNX := Lib.hid hnx
              clear hnx
              go_wp2_with fail
              go_roundw
              case rel => exact ⟨q + 1, _, ⟨HNX.out, hlt⟩, rfl, by go_num, BW2.out⟩
              case measure => simp [intOf]; omega
            · have z1 : 100 < (x.size : Int) := by omega
              go_wp2_with fail
              go_at_call 9
              refine (told_any RR.out wr).mono ?_
              rintro e w2 ⟨rfl, h2⟩
              go_wp2_with fail
              go_ret
              exact ⟨rfl, below_then BWq.out h2⟩
          · have HJNq : Hid (q = m) := by show q = m; have := HJq.out; omega
            have m1 : (m : Int) ≤ (q : Int) := by omega
            skip
            clear hlt
            have za : ¬ 9223372036854775807 < xs.size + ys.size := by have := HLS.out; have := HLSq.out; omega
            obtain ⟨W1, c1, hcv, bW1, hc1, hbs1⟩ := conv_str wr (xs ++ ys)
            have hts : (xs ++ ys).size = xs.size + ys.size := by simp
            have htd : (xs ++ ys).data.toList = Rec.frs (tx l j ++ tx ms q) := by
              rw [Rec.frs_append, ← HK.out.s1, ← HKq.out.s1]
              simp
            rw [hts] at hcv hc1
            rw [htd] at hbs1
            obtain ⟨T, hT⟩ : ∃ T, xs.size + ys.size = T := ⟨_, rfl⟩
            rw [hT] at hcv hc1
            have hll : (tx l j).length = j := tx_length HK.out.j1
            have hlm : (tx ms q).length = q := tx_length HKq.out.j1
            obtain ⟨P, hP⟩ : ∃ P, j + q = P := ⟨_, rfl⟩
            have hsc : Rec.scan (Rec.frs (tx l j ++ tx ms q)) = (tx l j ++ tx ms q, T) := by
              have h := Rec.scan_frs (tx l j ++ tx ms q) [] (fun x hx => by
                rcases List.mem_append.1 hx with k | k
                · exact Nat.le_trans (HK.out.sm x k) (by decide)
                · exact Nat.le_trans (HKq.out.sm x k) (by decide))
              rw [List.append_nil, Rec.scan_nil] at h
              rw [h, ← htd]
              simp [hT]
            have HSC := Lib.hid hsc
            have HPL : Hid ((tx l j ++ tx ms q).length = P) := by show (tx l j ++ tx ms q).length = P; rw [List.length_append, hll, hlm, hP]
            have HTL : Hid ((Rec.frs (tx l j ++ tx ms q)).length = T) := by show (Rec.frs (tx l j ++ tx ms q)).length = T; rw [← htd, ← hT]; simp
            have hjn := HJN.out
            have hqn := HJNq.out
            have HTB : Hid (T ≤ 2097152) := by show T ≤ 2097152; have := HLS.out; have := HLSq.out; omega
            have HB1 := Lib.hid hbs1
            have BW1 := Lib.hid (below_then BWq.out bW1)
            have sm1 : ((P : Int) != 6 + (m : Int)) = false := by
              rw [bne_eq_false_iff_eq]; omega
            have sm2 : ((T : Int) != (xs.size : Int) + (ys.size : Int)) = false := by
              rw [bne_eq_false_iff_eq]; omega
            have HPQ := Lib.hid hP
            have ht9 : (xs.size : Int) ≤ 1848 := by have := HLS.out; omega
            have ht8 : (ys.size : Int) ≤ 1848 := by have := HLSq.out; omega
            clear hts htd hT hll hlm hP hsc hbs1 bW1 hjn hqn
            go_wp2_with fail
            go_at_call 13
            refine (scan_at RR.out (some ⟨wr.heap.size, 0, none⟩) _ T c1 _ _ (tx l j ++ tx ms q) T P HSC.out HPL.out HTL.out HTB.out (fun e => nomatch e) hc1 HB1.out (Nat.le_refl _)).mono ?_
            rintro e w2 ⟨⟨A2, c2, rfl, hA2, hc2, hr2⟩, hb2⟩
            have HR2 := Lib.hid hr2
            have BW2 := Lib.hid (below_then BW1.out hb2)
            clear hA2 hr2 hb2 hcv
            go_wp2_with fail
            have HJ6 : Hid (j ≤ 6 ∧ q ≤ 6) := by have := HJ.out; have := HJq.out; constructor <;> omega
            go_loop [17] (fun i => ∃ r : Nat, r ≤ P ∧ i = .int .i64 r) (fun i => P - (intOf i).toNat)
            case atStart => exact ⟨0, Nat.zero_le _, rfl⟩
            case round =>
              obtain ⟨r, hr, rfl⟩ := hrel
              have r0 : (0 : Int) ≤ (r : Int) := by omega
              have r9 : (r : Int) ≤ 12 := by have := HPQ.out; have := HJ6.out; omega
              by_cases hrP : r < P
              · have r1 : (r : Int) < (P : Int) := by omega
                obtain ⟨pP, u, rfl, -, cP, hby⟩ := HR2.out r (by rw [HPL.out]; exact hrP)
                obtain ⟨A3, c3, rfl, -, -, hb3⟩ := hby
                by_cases hrj : r < j
                · have hrn : r < l.length := by have := HK.out.j1; omega
                  obtain ⟨x, hx⟩ : ∃ x, x = l[r] := ⟨_, rfl⟩
                  have hget : (tx l j ++ tx ms q)[r]'(by rw [HPL.out]; exact hrP) = x.data.toList := by
                    have h1 : r < (tx l j).length := by rw [tx_length HK.out.j1]; exact hrj
                    rw [List.getElem_append_left h1, hx]
                    exact (tx_at h1).2
                  obtain ⟨pA, rfl, -, cA⟩ := (KL.out.later BW2.out).at_ r hrn
                  rw [← hx] at cA
                  rw [hget] at cP hb3
                  have hxl : x.data.toList.length = x.size := by simp
                  rw [hxl] at cP
                  have cv := convert_n c3 x.size hxl hb3
                  have r2 : (r : Int) < 6 := by have := HJN.out; omega
                  have r3 : (r : Int) < (n : Int) := by have := HN.out; omega
                  clear hb3 hget hx hxl
                  go_wp2_with fail
                  go_round
                  case rel => exact ⟨r + 1, hrP, by go_num⟩
                  case measure => simp [intOf]; omega
                · obtain ⟨I, hI⟩ : ∃ I, r - j = I := ⟨_, rfl⟩
                  have hIq : I < q := by have := HPQ.out; omega
                  have hrn : I < ms.length := by have := HKq.out.j1; omega
                  obtain ⟨x, hx⟩ : ∃ x, x = ms[I] := ⟨_, rfl⟩
                  have hget : (tx l j ++ tx ms q)[r]'(by rw [HPL.out]; exact hrP) = x.data.toList := by
                    have hl1 := tx_length HK.out.j1
                    have h1 : I < (tx ms q).length := by rw [tx_length HKq.out.j1]; exact hIq
                    rw [List.getElem_append_right (by rw [hl1]; omega)]
                    simp only [hl1, hI]
                    rw [hx]
                    exact (tx_at h1).2
                  obtain ⟨pB, rfl, -, cB⟩ := (KM.out.later BW2.out).at_ I hrn
                  rw [← hx] at cB
                  rw [hget] at cP hb3
                  have hxl : x.data.toList.length = x.size := by simp
                  rw [hxl] at cP
                  have cv := convert_n c3 x.size hxl hb3
                  have r2 : 6 ≤ (r : Int) := by have := HJN.out; omega
                  have wI : IntKind.i64.wrap ((r : Int) - 6) = (I : Int) := by
                    have := HJN.out
                    simp [IntKind.wrap, IntKind.bits, IntKind.signed]
                    omega
                  have I0 : (0 : Int) ≤ (I : Int) := by omega
                  have I1 : (I : Int) < (m : Int) := by have := HM.out; omega
                  clear hb3 hget hx hxl hI
                  go_wp2_with fail
                  go_round
                  case rel => exact ⟨r + 1, hrP, by go_num⟩
                  case measure => simp [intOf]; omega
              · have r1 : (P : Int) ≤ (r : Int) := by omega
                cases cut
                · go_wp2_with fail
                  go_at_call 9
                  refine (told_any RR.out _).mono ?_
                  rintro e w3 ⟨rfl, h3⟩
                  go_wp2_with fail
                  go_ret
                  exact ⟨rfl, below_then BW2.out h3⟩
                · by_cases hz : xs.size = 0
                  · have z1 : ((xs.size : Int) == 0) = true := by simp [hz]
                    go_wp2_with fail
                    go_at_call 9
                    refine (told_any RR.out _).mono ?_
                    rintro e w3 ⟨rfl, h3⟩
                    go_wp2_with fail
                    go_ret
                    exact ⟨rfl, below_then BW2.out h3⟩
                  · have z1 : ((xs.size : Int) == 0) = false := beq_eq_false_iff_ne.mpr (by omega)
                    obtain ⟨Z, hZ⟩ : ∃ Z, xs.size - 1 = Z := ⟨_, rfl⟩
                    have wZ : IntKind.i64.wrap ((xs.size : Int) - 1) = (Z : Int) := by
                      simp [IntKind.wrap, IntKind.bits, IntKind.signed]
                      omega
                    have k0 : (0 : Int) ≤ (Z : Int) := by omega
                    have k1 : (Z : Int) ≤ (xs.size : Int) := by omega
                    have hsz : (Rec.frs (tx l j)).length = xs.size := by rw [← HK.out.s1]; simp
                    have hne : tx l j ≠ [] := fun e => by rw [e] at hsz; simp [Rec.frs] at hsz; omega
                    have hll : (tx l j).length = j := tx_length HK.out.j1
                    have hex : (ByteArray.extract xs 0 Z).size = Z := by rw [ByteArray.size_extract]; omega
                    have hed : (ByteArray.extract xs 0 Z).data.toList = (Rec.frs (tx l j)).take Z := by
                      rw [ByteArray.data_extract, ← HK.out.s1]
                      simp
                    have hj1 : 0 < j := by rw [← hll]; exact List.length_pos_iff.2 hne
                    obtain ⟨V, hV⟩ : ∃ V, j - 1 = V := ⟨_, rfl⟩
                    have hsc := Rec.scan_cut (tx l j) Z (fun x hx => Nat.le_trans (HK.out.sm x hx) (by decide))
                    have hwl := whole_last (tx l j) hne
                    have hlt := last_lt (tx l j) hne
                    rw [hsz, hZ, hll, hV] at hwl
                    rw [hll, hV, hsz, tx_take l V j (by omega)] at hlt
                    rw [hwl, tx_take l V j (by omega)] at hsc
                    obtain ⟨E, hE⟩ : ∃ E, (Rec.frs (tx l V)).length = E := ⟨_, rfl⟩
                    rw [hE] at hsc hlt
                    obtain ⟨W3, c5, hcv, bW3, hc5, hbs3⟩ := conv_str w2 (ByteArray.extract xs 0 Z)
                    rw [hex] at hcv hc5
                    rw [hed] at hbs3
                    have HSC2 := Lib.hid hsc
                    have HB3 := Lib.hid hbs3
                    have BW3 := Lib.hid (below_then BW2.out bW3)
                    have HVL : Hid ((tx l V).length = V) := by show (tx l V).length = V; exact tx_length (by have := HK.out.j1; omega)
                    have HZL : Hid (((Rec.frs (tx l j)).take Z).length = Z) := by
                      show ((Rec.frs (tx l j)).take Z).length = Z
                      rw [List.length_take, hsz]; omega
                    have HZB : Hid (Z ≤ 2097152) := by show Z ≤ 2097152; omega
                    have e1 : (E : Int) < (xs.size : Int) := by omega
                    have v1 : ((V : Int) == 5) = true := by
                      have := HJN.out
                      rw [beq_iff_eq]; omega
                    have n9 : (0 : Int) < 6 := by have := HJN.out; omega
                    clear hsz hne hll hex hed hV hsc hwl hlt hE hbs3 bW3 hZ
                    go_wp2_with fail
                    go_at_call 13
                    refine (scan_at RR.out (some ⟨w2.heap.size, 0, none⟩) _ Z c5 _ _ (tx l V) E V HSC2.out HVL.out HZL.out HZB.out (fun e => nomatch e) hc5 HB3.out (Nat.le_refl _)).mono ?_
                    rintro e w5 ⟨⟨A5, c6, rfl, hA5, hc6, -⟩, hb5⟩
                    have BW5 := Lib.hid (below_then BW3.out hb5)
                    clear hA5 hb5 hcv
                    go_wp2_with (go_at_call 9; refine (told_any RR.out _).mono ?_; rintro e w' ⟨rfl, hb⟩)
                    go_ret
                    exact ⟨rfl, below_then BW5.out hb⟩
  · have nz : (n : Int) ≤ 6 := by omega
    have mz : 6 < (m : Int) := by omega
    go_enter Try.func7, Try.ntmps7
    go_wp2_with fail
    go_loopw [7, 9] (fun vs i wr => JInv w l n vs i wr) (fun _ i _ => n - (intOf i).toNat)
    case atStart => exact ⟨0, ⟨#[]⟩, ⟨⟨Nat.zero_le _, by simp [tx], rfl, Nat.le_refl _⟩, Nat.zero_le _⟩, rfl, rfl, Below.refl _ _⟩
    case round =>
      obtain ⟨j, xs, ⟨hk1, hj10⟩, rfl, rfl, hbw⟩ := hrel
      have HK := Lib.hid hk1
      have HJ := Lib.hid hj10
      have BW := Lib.hid hbw
      have hls : xs.size = xs.data.toList.length := by simp
      have HLS : Hid (xs.size ≤ 1848) := by show xs.size ≤ 1848; rw [hls]; have := hk1.s2; omega
      clear hk1 hbw hls
      have j0 : (0 : Int) ≤ (j : Int) := by omega
      by_cases hlt : j < n
      · have hjn : j < n := by omega
        have j1 : (j : Int) < (n : Int) := by omega
        have j2 : (j : Int) < 6 := by omega
        obtain ⟨pA, rfl, -, cA⟩ := (KL.out.later BW.out).at_ j (by rw [HN.out]; exact hjn)
        obtain ⟨x, hx⟩ : ∃ x, x = l[j]'(by rw [HN.out]; exact hjn) := ⟨_, rfl⟩
        have HX := Lib.hid hx
        rw [← hx] at cA
        clear hx
        by_cases hsz : x.size ≤ 100
        · have z1 : (x.size : Int) ≤ 100 := by omega
          obtain ⟨W1, c1, hcv, bW1, hc1, hbs1⟩ := conv_str wr x
          have HB1 := Lib.hid hbs1
          have BW1 := Lib.hid bW1
          have HX1 := Lib.hid (show x.data.toList.length = x.size by simp)
          clear hbs1 bW1
          go_wp2_with fail
          go_at_call 10
          refine (frame_at RR.out (some ⟨wr.heap.size, 0, none⟩) x.data.toList x.size c1 _ _ HX1.out (by omega) (fun e => nomatch e) HB1.out (Nat.le_refl _)).mono ?_
          rintro e w2 ⟨⟨A2, c2, rfl, hA2, hc2, hr2⟩, hb2⟩
          have cv := convert_n c2 (x.size + 8) (by rw [Rec.fr_length, HX1.out]; omega) hr2
          have za : ¬ 9223372036854775807 < xs.size + (x.size + 8) := by have := HLS.out; omega
          have BW2 := Lib.hid (below_then BW.out (below_then BW1.out hb2))
          have hfs : (ByteArray.mk (Rec.fr x.data.toList).toArray).size = x.size + 8 := by
            show (Rec.fr x.data.toList).toArray.size = _
            rw [List.size_toArray, Rec.fr_length, HX1.out]; omega
          clear hA2 hr2 hb2 cA hcv
          have eX : Hid ((xs ++ ByteArray.mk (Rec.fr x.data.toList).toArray).data.toList = xs.data.toList ++ Rec.fr x.data.toList) := by
            show (xs ++ ByteArray.mk (Rec.fr x.data.toList).toArray).data.toList = xs.data.toList ++ Rec.fr x.data.toList
            simp
          have hnx := HK.out.next (by rw [HN.out]; exact hjn) (by rw [← HX.out]; omega)
          rw [← HX.out, ← eX.out] at hnx
          have HNX := Lib.hid hnx
          clear hnx
          go_wp2_with fail
          go_roundw
          case rel => exact ⟨j + 1, _, ⟨HNX.out, hlt⟩, rfl, by go_num, BW2.out⟩
          case measure => simp [intOf]; omega
        · have z1 : 100 < (x.size : Int) := by omega
          go_wp2_with fail
          go_at_call 9
          refine (told_any RR.out wr).mono ?_
          rintro e w2 ⟨rfl, h2⟩
          go_wp2_with fail
          go_ret
          exact ⟨rfl, below_then BW.out h2⟩
      · have HJN : Hid (j = n) := by show j = n; have := HJ.out; omega
        have n1 : (n : Int) ≤ (j : Int) := by omega
        skip
        clear hlt
        go_wp2_with fail
        go_loopw [8, 12] (fun vs i wr => JInv w ms 6 vs i wr) (fun _ i _ => 6 - (intOf i).toNat)
        case atStart => exact ⟨0, ⟨#[]⟩, ⟨⟨Nat.zero_le _, by simp [tx], rfl, Nat.le_refl _⟩, Nat.zero_le _⟩, rfl, rfl, BW.out⟩
        case round =>
          obtain ⟨q, ys, ⟨hk1, hj10⟩, rfl, rfl, hbw⟩ := hrel
          have HKq := Lib.hid hk1
          have HJq := Lib.hid hj10
          have BWq := Lib.hid hbw
          have hls : ys.size = ys.data.toList.length := by simp
          have HLSq : Hid (ys.size ≤ 1848) := by show ys.size ≤ 1848; rw [hls]; have := hk1.s2; omega
          clear hk1 hbw hls
          have q0 : (0 : Int) ≤ (q : Int) := by omega
          by_cases hlt : q < 6
          · have hjn : q < m := by omega
            have j1 : (q : Int) < (m : Int) := by omega
            have j2 : (q : Int) < 6 := by omega
            obtain ⟨pA, rfl, -, cA⟩ := (KM.out.later BWq.out).at_ q (by rw [HM.out]; exact hjn)
            obtain ⟨x, hx⟩ : ∃ x, x = ms[q]'(by rw [HM.out]; exact hjn) := ⟨_, rfl⟩
            have HX := Lib.hid hx
            rw [← hx] at cA
            clear hx
            by_cases hsz : x.size ≤ 100
            · have z1 : (x.size : Int) ≤ 100 := by omega
              obtain ⟨W1, c1, hcv, bW1, hc1, hbs1⟩ := conv_str wr x
              have HB1 := Lib.hid hbs1
              have BW1 := Lib.hid bW1
              have HX1 := Lib.hid (show x.data.toList.length = x.size by simp)
              clear hbs1 bW1
              go_wp2_with fail
              go_at_call 10
              refine (frame_at RR.out (some ⟨wr.heap.size, 0, none⟩) x.data.toList x.size c1 _ _ HX1.out (by omega) (fun e => nomatch e) HB1.out (Nat.le_refl _)).mono ?_
              rintro e w2 ⟨⟨A2, c2, rfl, hA2, hc2, hr2⟩, hb2⟩
              have cv := convert_n c2 (x.size + 8) (by rw [Rec.fr_length, HX1.out]; omega) hr2
              have za : ¬ 9223372036854775807 < ys.size + (x.size + 8) := by have := HLSq.out; omega
              have BW2 := Lib.hid (below_then BWq.out (below_then BW1.out hb2))
              have hfs : (ByteArray.mk (Rec.fr x.data.toList).toArray).size = x.size + 8 := by
                show (Rec.fr x.data.toList).toArray.size = _
                rw [List.size_toArray, Rec.fr_length, HX1.out]; omega
              clear hA2 hr2 hb2 cA hcv
              have eX : Hid ((ys ++ ByteArray.mk (Rec.fr x.data.toList).toArray).data.toList = ys.data.toList ++ Rec.fr x.data.toList) := by
                show (ys ++ ByteArray.mk (Rec.fr x.data.toList).toArray).data.toList = ys.data.toList ++ Rec.fr x.data.toList
                simp
              have hnx := HKq.out.next (by rw [HM.out]; exact hjn) (by rw [← HX.out]; omega)
              rw [← HX.out, ← eX.out] at hnx
              have HNX := Lib.hid hnx
              clear hnx
              go_wp2_with fail
              go_roundw
              case rel => exact ⟨q + 1, _, ⟨HNX.out, hlt⟩, rfl, by go_num, BW2.out⟩
              case measure => simp [intOf]; omega
            · have z1 : 100 < (x.size : Int) := by omega
              go_wp2_with fail
              go_at_call 9
              refine (told_any RR.out wr).mono ?_
              rintro e w2 ⟨rfl, h2⟩
              go_wp2_with fail
              go_ret
              exact ⟨rfl, below_then BWq.out h2⟩
          · have HJNq : Hid (q = 6) := by show q = 6; have := HJq.out; omega
            have m1 : (q : Int) < (m : Int) := by omega
            have m3 : (6 : Int) ≤ (q : Int) := by omega
            clear hlt
            have za : ¬ 9223372036854775807 < xs.size + ys.size := by have := HLS.out; have := HLSq.out; omega
            obtain ⟨W1, c1, hcv, bW1, hc1, hbs1⟩ := conv_str wr (xs ++ ys)
            have hts : (xs ++ ys).size = xs.size + ys.size := by simp
            have htd : (xs ++ ys).data.toList = Rec.frs (tx l j ++ tx ms q) := by
              rw [Rec.frs_append, ← HK.out.s1, ← HKq.out.s1]
              simp
            rw [hts] at hcv hc1
            rw [htd] at hbs1
            obtain ⟨T, hT⟩ : ∃ T, xs.size + ys.size = T := ⟨_, rfl⟩
            rw [hT] at hcv hc1
            have hll : (tx l j).length = j := tx_length HK.out.j1
            have hlm : (tx ms q).length = q := tx_length HKq.out.j1
            obtain ⟨P, hP⟩ : ∃ P, j + q = P := ⟨_, rfl⟩
            have hsc : Rec.scan (Rec.frs (tx l j ++ tx ms q)) = (tx l j ++ tx ms q, T) := by
              have h := Rec.scan_frs (tx l j ++ tx ms q) [] (fun x hx => by
                rcases List.mem_append.1 hx with k | k
                · exact Nat.le_trans (HK.out.sm x k) (by decide)
                · exact Nat.le_trans (HKq.out.sm x k) (by decide))
              rw [List.append_nil, Rec.scan_nil] at h
              rw [h, ← htd]
              simp [hT]
            have HSC := Lib.hid hsc
            have HPL : Hid ((tx l j ++ tx ms q).length = P) := by show (tx l j ++ tx ms q).length = P; rw [List.length_append, hll, hlm, hP]
            have HTL : Hid ((Rec.frs (tx l j ++ tx ms q)).length = T) := by show (Rec.frs (tx l j ++ tx ms q)).length = T; rw [← htd, ← hT]; simp
            have hjn := HJN.out
            have hqn := HJNq.out
            have HTB : Hid (T ≤ 2097152) := by show T ≤ 2097152; have := HLS.out; have := HLSq.out; omega
            have HB1 := Lib.hid hbs1
            have BW1 := Lib.hid (below_then BWq.out bW1)
            have sm1 : ((P : Int) != (n : Int) + 6) = false := by
              rw [bne_eq_false_iff_eq]; omega
            have sm2 : ((T : Int) != (xs.size : Int) + (ys.size : Int)) = false := by
              rw [bne_eq_false_iff_eq]; omega
            have HPQ := Lib.hid hP
            have ht9 : (xs.size : Int) ≤ 1848 := by have := HLS.out; omega
            have ht8 : (ys.size : Int) ≤ 1848 := by have := HLSq.out; omega
            clear hts htd hT hll hlm hP hsc hbs1 bW1 hjn hqn
            go_wp2_with fail
            go_at_call 13
            refine (scan_at RR.out (some ⟨wr.heap.size, 0, none⟩) _ T c1 _ _ (tx l j ++ tx ms q) T P HSC.out HPL.out HTL.out HTB.out (fun e => nomatch e) hc1 HB1.out (Nat.le_refl _)).mono ?_
            rintro e w2 ⟨⟨A2, c2, rfl, hA2, hc2, hr2⟩, hb2⟩
            have HR2 := Lib.hid hr2
            have BW2 := Lib.hid (below_then BW1.out hb2)
            clear hA2 hr2 hb2 hcv
            go_wp2_with fail
            have HJ6 : Hid (j ≤ 6 ∧ q ≤ 6) := by have := HJ.out; have := HJq.out; constructor <;> omega
            go_loop [17] (fun i => ∃ r : Nat, r ≤ P ∧ i = .int .i64 r) (fun i => P - (intOf i).toNat)
            case atStart => exact ⟨0, Nat.zero_le _, rfl⟩
            case round =>
              obtain ⟨r, hr, rfl⟩ := hrel
              have r0 : (0 : Int) ≤ (r : Int) := by omega
              have r9 : (r : Int) ≤ 12 := by have := HPQ.out; have := HJ6.out; omega
              by_cases hrP : r < P
              · have r1 : (r : Int) < (P : Int) := by omega
                obtain ⟨pP, u, rfl, -, cP, hby⟩ := HR2.out r (by rw [HPL.out]; exact hrP)
                obtain ⟨A3, c3, rfl, -, -, hb3⟩ := hby
                by_cases hrj : r < j
                · have hrn : r < l.length := by have := HK.out.j1; omega
                  obtain ⟨x, hx⟩ : ∃ x, x = l[r] := ⟨_, rfl⟩
                  have hget : (tx l j ++ tx ms q)[r]'(by rw [HPL.out]; exact hrP) = x.data.toList := by
                    have h1 : r < (tx l j).length := by rw [tx_length HK.out.j1]; exact hrj
                    rw [List.getElem_append_left h1, hx]
                    exact (tx_at h1).2
                  obtain ⟨pA, rfl, -, cA⟩ := (KL.out.later BW2.out).at_ r hrn
                  rw [← hx] at cA
                  rw [hget] at cP hb3
                  have hxl : x.data.toList.length = x.size := by simp
                  rw [hxl] at cP
                  have cv := convert_n c3 x.size hxl hb3
                  have r2 : (r : Int) < (n : Int) := by have := HJN.out; omega
                  have r3 : (r : Int) < (n : Int) := by have := HN.out; omega
                  clear hb3 hget hx hxl
                  go_wp2_with fail
                  go_round
                  case rel => exact ⟨r + 1, hrP, by go_num⟩
                  case measure => simp [intOf]; omega
                · obtain ⟨I, hI⟩ : ∃ I, r - j = I := ⟨_, rfl⟩
                  have hIq : I < q := by have := HPQ.out; omega
                  have hrn : I < ms.length := by have := HKq.out.j1; omega
                  obtain ⟨x, hx⟩ : ∃ x, x = ms[I] := ⟨_, rfl⟩
                  have hget : (tx l j ++ tx ms q)[r]'(by rw [HPL.out]; exact hrP) = x.data.toList := by
                    have hl1 := tx_length HK.out.j1
                    have h1 : I < (tx ms q).length := by rw [tx_length HKq.out.j1]; exact hIq
                    rw [List.getElem_append_right (by rw [hl1]; omega)]
                    simp only [hl1, hI]
                    rw [hx]
                    exact (tx_at h1).2
                  obtain ⟨pB, rfl, -, cB⟩ := (KM.out.later BW2.out).at_ I hrn
                  rw [← hx] at cB
                  rw [hget] at cP hb3
                  have hxl : x.data.toList.length = x.size := by simp
                  rw [hxl] at cP
                  have cv := convert_n c3 x.size hxl hb3
                  have r2 : (n : Int) ≤ (r : Int) := by have := HJN.out; omega
                  have wI : IntKind.i64.wrap ((r : Int) - (n : Int)) = (I : Int) := by
                    have := HJN.out
                    simp [IntKind.wrap, IntKind.bits, IntKind.signed]
                    omega
                  have I0 : (0 : Int) ≤ (I : Int) := by omega
                  have I1 : (I : Int) < (m : Int) := by have := HM.out; omega
                  clear hb3 hget hx hxl hI
                  go_wp2_with fail
                  go_round
                  case rel => exact ⟨r + 1, hrP, by go_num⟩
                  case measure => simp [intOf]; omega
              · have r1 : (P : Int) ≤ (r : Int) := by omega
                cases cut
                · go_wp2_with fail
                  go_at_call 9
                  refine (told_any RR.out _).mono ?_
                  rintro e w3 ⟨rfl, h3⟩
                  go_wp2_with fail
                  go_ret
                  exact ⟨rfl, below_then BW2.out h3⟩
                · by_cases hz : xs.size = 0
                  · have z1 : ((xs.size : Int) == 0) = true := by simp [hz]
                    go_wp2_with fail
                    go_at_call 9
                    refine (told_any RR.out _).mono ?_
                    rintro e w3 ⟨rfl, h3⟩
                    go_wp2_with fail
                    go_ret
                    exact ⟨rfl, below_then BW2.out h3⟩
                  · have z1 : ((xs.size : Int) == 0) = false := beq_eq_false_iff_ne.mpr (by omega)
                    obtain ⟨Z, hZ⟩ : ∃ Z, xs.size - 1 = Z := ⟨_, rfl⟩
                    have wZ : IntKind.i64.wrap ((xs.size : Int) - 1) = (Z : Int) := by
                      simp [IntKind.wrap, IntKind.bits, IntKind.signed]
                      omega
                    have k0 : (0 : Int) ≤ (Z : Int) := by omega
                    have k1 : (Z : Int) ≤ (xs.size : Int) := by omega
                    have hsz : (Rec.frs (tx l j)).length = xs.size := by rw [← HK.out.s1]; simp
                    have hne : tx l j ≠ [] := fun e => by rw [e] at hsz; simp [Rec.frs] at hsz; omega
                    have hll : (tx l j).length = j := tx_length HK.out.j1
                    have hex : (ByteArray.extract xs 0 Z).size = Z := by rw [ByteArray.size_extract]; omega
                    have hed : (ByteArray.extract xs 0 Z).data.toList = (Rec.frs (tx l j)).take Z := by
                      rw [ByteArray.data_extract, ← HK.out.s1]
                      simp
                    have hj1 : 0 < j := by rw [← hll]; exact List.length_pos_iff.2 hne
                    obtain ⟨V, hV⟩ : ∃ V, j - 1 = V := ⟨_, rfl⟩
                    have hsc := Rec.scan_cut (tx l j) Z (fun x hx => Nat.le_trans (HK.out.sm x hx) (by decide))
                    have hwl := whole_last (tx l j) hne
                    have hlt := last_lt (tx l j) hne
                    rw [hsz, hZ, hll, hV] at hwl
                    rw [hll, hV, hsz, tx_take l V j (by omega)] at hlt
                    rw [hwl, tx_take l V j (by omega)] at hsc
                    obtain ⟨E, hE⟩ : ∃ E, (Rec.frs (tx l V)).length = E := ⟨_, rfl⟩
                    rw [hE] at hsc hlt
                    obtain ⟨W3, c5, hcv, bW3, hc5, hbs3⟩ := conv_str w2 (ByteArray.extract xs 0 Z)
                    rw [hex] at hcv hc5
                    rw [hed] at hbs3
                    have HSC2 := Lib.hid hsc
                    have HB3 := Lib.hid hbs3
                    have BW3 := Lib.hid (below_then BW2.out bW3)
                    have HVL : Hid ((tx l V).length = V) := by show (tx l V).length = V; exact tx_length (by have := HK.out.j1; omega)
                    have HZL : Hid (((Rec.frs (tx l j)).take Z).length = Z) := by
                      show ((Rec.frs (tx l j)).take Z).length = Z
                      rw [List.length_take, hsz]; omega
                    have HZB : Hid (Z ≤ 2097152) := by show Z ≤ 2097152; omega
                    have e1 : (E : Int) < (xs.size : Int) := by omega
                    have v1 : ((V : Int) == (n : Int) - 1) = true := by
                      have := HJN.out
                      rw [beq_iff_eq]; omega
                    have n9 : (0 : Int) < (n : Int) := by have := HJN.out; omega
                    clear hsz hne hll hex hed hV hsc hwl hlt hE hbs3 bW3 hZ
                    go_wp2_with fail
                    go_at_call 13
                    refine (scan_at RR.out (some ⟨w2.heap.size, 0, none⟩) _ Z c5 _ _ (tx l V) E V HSC2.out HVL.out HZL.out HZB.out (fun e => nomatch e) hc5 HB3.out (Nat.le_refl _)).mono ?_
                    rintro e w5 ⟨⟨A5, c6, rfl, hA5, hc6, -⟩, hb5⟩
                    have BW5 := Lib.hid (below_then BW3.out hb5)
                    clear hA5 hb5 hcv
                    go_wp2_with (go_at_call 9; refine (told_any RR.out _).mono ?_; rintro e w' ⟨rfl, hb⟩)
                    go_ret
                    exact ⟨rfl, below_then BW5.out hb⟩
  · have nz : (n : Int) ≤ 6 := by omega
    have mz : (m : Int) ≤ 6 := by omega
    go_enter Try.func7, Try.ntmps7
    go_wp2_with fail
    go_loopw [7, 9] (fun vs i wr => JInv w l n vs i wr) (fun _ i _ => n - (intOf i).toNat)
    case atStart => exact ⟨0, ⟨#[]⟩, ⟨⟨Nat.zero_le _, by simp [tx], rfl, Nat.le_refl _⟩, Nat.zero_le _⟩, rfl, rfl, Below.refl _ _⟩
    case round =>
      obtain ⟨j, xs, ⟨hk1, hj10⟩, rfl, rfl, hbw⟩ := hrel
      have HK := Lib.hid hk1
      have HJ := Lib.hid hj10
      have BW := Lib.hid hbw
      have hls : xs.size = xs.data.toList.length := by simp
      have HLS : Hid (xs.size ≤ 1848) := by show xs.size ≤ 1848; rw [hls]; have := hk1.s2; omega
      clear hk1 hbw hls
      have j0 : (0 : Int) ≤ (j : Int) := by omega
      by_cases hlt : j < n
      · have hjn : j < n := by omega
        have j1 : (j : Int) < (n : Int) := by omega
        have j2 : (j : Int) < 6 := by omega
        obtain ⟨pA, rfl, -, cA⟩ := (KL.out.later BW.out).at_ j (by rw [HN.out]; exact hjn)
        obtain ⟨x, hx⟩ : ∃ x, x = l[j]'(by rw [HN.out]; exact hjn) := ⟨_, rfl⟩
        have HX := Lib.hid hx
        rw [← hx] at cA
        clear hx
        by_cases hsz : x.size ≤ 100
        · have z1 : (x.size : Int) ≤ 100 := by omega
          obtain ⟨W1, c1, hcv, bW1, hc1, hbs1⟩ := conv_str wr x
          have HB1 := Lib.hid hbs1
          have BW1 := Lib.hid bW1
          have HX1 := Lib.hid (show x.data.toList.length = x.size by simp)
          clear hbs1 bW1
          go_wp2_with fail
          go_at_call 10
          refine (frame_at RR.out (some ⟨wr.heap.size, 0, none⟩) x.data.toList x.size c1 _ _ HX1.out (by omega) (fun e => nomatch e) HB1.out (Nat.le_refl _)).mono ?_
          rintro e w2 ⟨⟨A2, c2, rfl, hA2, hc2, hr2⟩, hb2⟩
          have cv := convert_n c2 (x.size + 8) (by rw [Rec.fr_length, HX1.out]; omega) hr2
          have za : ¬ 9223372036854775807 < xs.size + (x.size + 8) := by have := HLS.out; omega
          have BW2 := Lib.hid (below_then BW.out (below_then BW1.out hb2))
          have hfs : (ByteArray.mk (Rec.fr x.data.toList).toArray).size = x.size + 8 := by
            show (Rec.fr x.data.toList).toArray.size = _
            rw [List.size_toArray, Rec.fr_length, HX1.out]; omega
          clear hA2 hr2 hb2 cA hcv
          have eX : Hid ((xs ++ ByteArray.mk (Rec.fr x.data.toList).toArray).data.toList = xs.data.toList ++ Rec.fr x.data.toList) := by
            show (xs ++ ByteArray.mk (Rec.fr x.data.toList).toArray).data.toList = xs.data.toList ++ Rec.fr x.data.toList
            simp
          have hnx := HK.out.next (by rw [HN.out]; exact hjn) (by rw [← HX.out]; omega)
          rw [← HX.out, ← eX.out] at hnx
          have HNX := Lib.hid hnx
          clear hnx
          go_wp2_with fail
          go_roundw
          case rel => exact ⟨j + 1, _, ⟨HNX.out, hlt⟩, rfl, by go_num, BW2.out⟩
          case measure => simp [intOf]; omega
        · have z1 : 100 < (x.size : Int) := by omega
          go_wp2_with fail
          go_at_call 9
          refine (told_any RR.out wr).mono ?_
          rintro e w2 ⟨rfl, h2⟩
          go_wp2_with fail
          go_ret
          exact ⟨rfl, below_then BW.out h2⟩
      · have HJN : Hid (j = n) := by show j = n; have := HJ.out; omega
        have n1 : (n : Int) ≤ (j : Int) := by omega
        skip
        clear hlt
        go_wp2_with fail
        go_loopw [8, 12] (fun vs i wr => JInv w ms m vs i wr) (fun _ i _ => m - (intOf i).toNat)
        case atStart => exact ⟨0, ⟨#[]⟩, ⟨⟨Nat.zero_le _, by simp [tx], rfl, Nat.le_refl _⟩, Nat.zero_le _⟩, rfl, rfl, BW.out⟩
        case round =>
          obtain ⟨q, ys, ⟨hk1, hj10⟩, rfl, rfl, hbw⟩ := hrel
          have HKq := Lib.hid hk1
          have HJq := Lib.hid hj10
          have BWq := Lib.hid hbw
          have hls : ys.size = ys.data.toList.length := by simp
          have HLSq : Hid (ys.size ≤ 1848) := by show ys.size ≤ 1848; rw [hls]; have := hk1.s2; omega
          clear hk1 hbw hls
          have q0 : (0 : Int) ≤ (q : Int) := by omega
          by_cases hlt : q < m
          · have hjn : q < m := by omega
            have j1 : (q : Int) < (m : Int) := by omega
            have j2 : (q : Int) < 6 := by omega
            obtain ⟨pA, rfl, -, cA⟩ := (KM.out.later BWq.out).at_ q (by rw [HM.out]; exact hjn)
            obtain ⟨x, hx⟩ : ∃ x, x = ms[q]'(by rw [HM.out]; exact hjn) := ⟨_, rfl⟩
            have HX := Lib.hid hx
            rw [← hx] at cA
            clear hx
            by_cases hsz : x.size ≤ 100
            · have z1 : (x.size : Int) ≤ 100 := by omega
              obtain ⟨W1, c1, hcv, bW1, hc1, hbs1⟩ := conv_str wr x
              have HB1 := Lib.hid hbs1
              have BW1 := Lib.hid bW1
              have HX1 := Lib.hid (show x.data.toList.length = x.size by simp)
              clear hbs1 bW1
              go_wp2_with fail
              go_at_call 10
              refine (frame_at RR.out (some ⟨wr.heap.size, 0, none⟩) x.data.toList x.size c1 _ _ HX1.out (by omega) (fun e => nomatch e) HB1.out (Nat.le_refl _)).mono ?_
              rintro e w2 ⟨⟨A2, c2, rfl, hA2, hc2, hr2⟩, hb2⟩
              have cv := convert_n c2 (x.size + 8) (by rw [Rec.fr_length, HX1.out]; omega) hr2
              have za : ¬ 9223372036854775807 < ys.size + (x.size + 8) := by have := HLSq.out; omega
              have BW2 := Lib.hid (below_then BWq.out (below_then BW1.out hb2))
              have hfs : (ByteArray.mk (Rec.fr x.data.toList).toArray).size = x.size + 8 := by
                show (Rec.fr x.data.toList).toArray.size = _
                rw [List.size_toArray, Rec.fr_length, HX1.out]; omega
              clear hA2 hr2 hb2 cA hcv
              have eX : Hid ((ys ++ ByteArray.mk (Rec.fr x.data.toList).toArray).data.toList = ys.data.toList ++ Rec.fr x.data.toList) := by
                show (ys ++ ByteArray.mk (Rec.fr x.data.toList).toArray).data.toList = ys.data.toList ++ Rec.fr x.data.toList
                simp
              have hnx := HKq.out.next (by rw [HM.out]; exact hjn) (by rw [← HX.out]; omega)
              rw [← HX.out, ← eX.out] at hnx
              have HNX := Lib.hid hnx
              clear hnx
              go_wp2_with fail
              go_roundw
              case rel => exact ⟨q + 1, _, ⟨HNX.out, hlt⟩, rfl, by go_num, BW2.out⟩
              case measure => simp [intOf]; omega
            · have z1 : 100 < (x.size : Int) := by omega
              go_wp2_with fail
              go_at_call 9
              refine (told_any RR.out wr).mono ?_
              rintro e w2 ⟨rfl, h2⟩
              go_wp2_with fail
              go_ret
              exact ⟨rfl, below_then BWq.out h2⟩
          · have HJNq : Hid (q = m) := by show q = m; have := HJq.out; omega
            have m1 : (m : Int) ≤ (q : Int) := by omega
            skip
            clear hlt
            have za : ¬ 9223372036854775807 < xs.size + ys.size := by have := HLS.out; have := HLSq.out; omega
            obtain ⟨W1, c1, hcv, bW1, hc1, hbs1⟩ := conv_str wr (xs ++ ys)
            have hts : (xs ++ ys).size = xs.size + ys.size := by simp
            have htd : (xs ++ ys).data.toList = Rec.frs (tx l j ++ tx ms q) := by
              rw [Rec.frs_append, ← HK.out.s1, ← HKq.out.s1]
              simp
            rw [hts] at hcv hc1
            rw [htd] at hbs1
            obtain ⟨T, hT⟩ : ∃ T, xs.size + ys.size = T := ⟨_, rfl⟩
            rw [hT] at hcv hc1
            have hll : (tx l j).length = j := tx_length HK.out.j1
            have hlm : (tx ms q).length = q := tx_length HKq.out.j1
            obtain ⟨P, hP⟩ : ∃ P, j + q = P := ⟨_, rfl⟩
            have hsc : Rec.scan (Rec.frs (tx l j ++ tx ms q)) = (tx l j ++ tx ms q, T) := by
              have h := Rec.scan_frs (tx l j ++ tx ms q) [] (fun x hx => by
                rcases List.mem_append.1 hx with k | k
                · exact Nat.le_trans (HK.out.sm x k) (by decide)
                · exact Nat.le_trans (HKq.out.sm x k) (by decide))
              rw [List.append_nil, Rec.scan_nil] at h
              rw [h, ← htd]
              simp [hT]
            have HSC := Lib.hid hsc
            have HPL : Hid ((tx l j ++ tx ms q).length = P) := by show (tx l j ++ tx ms q).length = P; rw [List.length_append, hll, hlm, hP]
            have HTL : Hid ((Rec.frs (tx l j ++ tx ms q)).length = T) := by show (Rec.frs (tx l j ++ tx ms q)).length = T; rw [← htd, ← hT]; simp
            have hjn := HJN.out
            have hqn := HJNq.out
            have HTB : Hid (T ≤ 2097152) := by show T ≤ 2097152; have := HLS.out; have := HLSq.out; omega
            have HB1 := Lib.hid hbs1
            have BW1 := Lib.hid (below_then BWq.out bW1)
            have sm1 : ((P : Int) != (n : Int) + (m : Int)) = false := by
              rw [bne_eq_false_iff_eq]; omega
            have sm2 : ((T : Int) != (xs.size : Int) + (ys.size : Int)) = false := by
              rw [bne_eq_false_iff_eq]; omega
            have HPQ := Lib.hid hP
            have ht9 : (xs.size : Int) ≤ 1848 := by have := HLS.out; omega
            have ht8 : (ys.size : Int) ≤ 1848 := by have := HLSq.out; omega
            clear hts htd hT hll hlm hP hsc hbs1 bW1 hjn hqn
            go_wp2_with fail
            go_at_call 13
            refine (scan_at RR.out (some ⟨wr.heap.size, 0, none⟩) _ T c1 _ _ (tx l j ++ tx ms q) T P HSC.out HPL.out HTL.out HTB.out (fun e => nomatch e) hc1 HB1.out (Nat.le_refl _)).mono ?_
            rintro e w2 ⟨⟨A2, c2, rfl, hA2, hc2, hr2⟩, hb2⟩
            have HR2 := Lib.hid hr2
            have BW2 := Lib.hid (below_then BW1.out hb2)
            clear hA2 hr2 hb2 hcv
            go_wp2_with fail
            have HJ6 : Hid (j ≤ 6 ∧ q ≤ 6) := by have := HJ.out; have := HJq.out; constructor <;> omega
            go_loop [17] (fun i => ∃ r : Nat, r ≤ P ∧ i = .int .i64 r) (fun i => P - (intOf i).toNat)
            case atStart => exact ⟨0, Nat.zero_le _, rfl⟩
            case round =>
              obtain ⟨r, hr, rfl⟩ := hrel
              have r0 : (0 : Int) ≤ (r : Int) := by omega
              have r9 : (r : Int) ≤ 12 := by have := HPQ.out; have := HJ6.out; omega
              by_cases hrP : r < P
              · have r1 : (r : Int) < (P : Int) := by omega
                obtain ⟨pP, u, rfl, -, cP, hby⟩ := HR2.out r (by rw [HPL.out]; exact hrP)
                obtain ⟨A3, c3, rfl, -, -, hb3⟩ := hby
                by_cases hrj : r < j
                · have hrn : r < l.length := by have := HK.out.j1; omega
                  obtain ⟨x, hx⟩ : ∃ x, x = l[r] := ⟨_, rfl⟩
                  have hget : (tx l j ++ tx ms q)[r]'(by rw [HPL.out]; exact hrP) = x.data.toList := by
                    have h1 : r < (tx l j).length := by rw [tx_length HK.out.j1]; exact hrj
                    rw [List.getElem_append_left h1, hx]
                    exact (tx_at h1).2
                  obtain ⟨pA, rfl, -, cA⟩ := (KL.out.later BW2.out).at_ r hrn
                  rw [← hx] at cA
                  rw [hget] at cP hb3
                  have hxl : x.data.toList.length = x.size := by simp
                  rw [hxl] at cP
                  have cv := convert_n c3 x.size hxl hb3
                  have r2 : (r : Int) < (n : Int) := by have := HJN.out; omega
                  have r3 : (r : Int) < (n : Int) := by have := HN.out; omega
                  clear hb3 hget hx hxl
                  go_wp2_with fail
                  go_round
                  case rel => exact ⟨r + 1, hrP, by go_num⟩
                  case measure => simp [intOf]; omega
                · obtain ⟨I, hI⟩ : ∃ I, r - j = I := ⟨_, rfl⟩
                  have hIq : I < q := by have := HPQ.out; omega
                  have hrn : I < ms.length := by have := HKq.out.j1; omega
                  obtain ⟨x, hx⟩ : ∃ x, x = ms[I] := ⟨_, rfl⟩
                  have hget : (tx l j ++ tx ms q)[r]'(by rw [HPL.out]; exact hrP) = x.data.toList := by
                    have hl1 := tx_length HK.out.j1
                    have h1 : I < (tx ms q).length := by rw [tx_length HKq.out.j1]; exact hIq
                    rw [List.getElem_append_right (by rw [hl1]; omega)]
                    simp only [hl1, hI]
                    rw [hx]
                    exact (tx_at h1).2
                  obtain ⟨pB, rfl, -, cB⟩ := (KM.out.later BW2.out).at_ I hrn
                  rw [← hx] at cB
                  rw [hget] at cP hb3
                  have hxl : x.data.toList.length = x.size := by simp
                  rw [hxl] at cP
                  have cv := convert_n c3 x.size hxl hb3
                  have r2 : (n : Int) ≤ (r : Int) := by have := HJN.out; omega
                  have wI : IntKind.i64.wrap ((r : Int) - (n : Int)) = (I : Int) := by
                    have := HJN.out
                    simp [IntKind.wrap, IntKind.bits, IntKind.signed]
                    omega
                  have I0 : (0 : Int) ≤ (I : Int) := by omega
                  have I1 : (I : Int) < (m : Int) := by have := HM.out; omega
                  clear hb3 hget hx hxl hI
                  go_wp2_with fail
                  go_round
                  case rel => exact ⟨r + 1, hrP, by go_num⟩
                  case measure => simp [intOf]; omega
              · have r1 : (P : Int) ≤ (r : Int) := by omega
                cases cut
                · go_wp2_with fail
                  go_at_call 9
                  refine (told_any RR.out _).mono ?_
                  rintro e w3 ⟨rfl, h3⟩
                  go_wp2_with fail
                  go_ret
                  exact ⟨rfl, below_then BW2.out h3⟩
                · by_cases hz : xs.size = 0
                  · have z1 : ((xs.size : Int) == 0) = true := by simp [hz]
                    go_wp2_with fail
                    go_at_call 9
                    refine (told_any RR.out _).mono ?_
                    rintro e w3 ⟨rfl, h3⟩
                    go_wp2_with fail
                    go_ret
                    exact ⟨rfl, below_then BW2.out h3⟩
                  · have z1 : ((xs.size : Int) == 0) = false := beq_eq_false_iff_ne.mpr (by omega)
                    obtain ⟨Z, hZ⟩ : ∃ Z, xs.size - 1 = Z := ⟨_, rfl⟩
                    have wZ : IntKind.i64.wrap ((xs.size : Int) - 1) = (Z : Int) := by
                      simp [IntKind.wrap, IntKind.bits, IntKind.signed]
                      omega
                    have k0 : (0 : Int) ≤ (Z : Int) := by omega
                    have k1 : (Z : Int) ≤ (xs.size : Int) := by omega
                    have hsz : (Rec.frs (tx l j)).length = xs.size := by rw [← HK.out.s1]; simp
                    have hne : tx l j ≠ [] := fun e => by rw [e] at hsz; simp [Rec.frs] at hsz; omega
                    have hll : (tx l j).length = j := tx_length HK.out.j1
                    have hex : (ByteArray.extract xs 0 Z).size = Z := by rw [ByteArray.size_extract]; omega
                    have hed : (ByteArray.extract xs 0 Z).data.toList = (Rec.frs (tx l j)).take Z := by
                      rw [ByteArray.data_extract, ← HK.out.s1]
                      simp
                    have hj1 : 0 < j := by rw [← hll]; exact List.length_pos_iff.2 hne
                    obtain ⟨V, hV⟩ : ∃ V, j - 1 = V := ⟨_, rfl⟩
                    have hsc := Rec.scan_cut (tx l j) Z (fun x hx => Nat.le_trans (HK.out.sm x hx) (by decide))
                    have hwl := whole_last (tx l j) hne
                    have hlt := last_lt (tx l j) hne
                    rw [hsz, hZ, hll, hV] at hwl
                    rw [hll, hV, hsz, tx_take l V j (by omega)] at hlt
                    rw [hwl, tx_take l V j (by omega)] at hsc
                    obtain ⟨E, hE⟩ : ∃ E, (Rec.frs (tx l V)).length = E := ⟨_, rfl⟩
                    rw [hE] at hsc hlt
                    obtain ⟨W3, c5, hcv, bW3, hc5, hbs3⟩ := conv_str w2 (ByteArray.extract xs 0 Z)
                    rw [hex] at hcv hc5
                    rw [hed] at hbs3
                    have HSC2 := Lib.hid hsc
                    have HB3 := Lib.hid hbs3
                    have BW3 := Lib.hid (below_then BW2.out bW3)
                    have HVL : Hid ((tx l V).length = V) := by show (tx l V).length = V; exact tx_length (by have := HK.out.j1; omega)
                    have HZL : Hid (((Rec.frs (tx l j)).take Z).length = Z) := by
                      show ((Rec.frs (tx l j)).take Z).length = Z
                      rw [List.length_take, hsz]; omega
                    have HZB : Hid (Z ≤ 2097152) := by show Z ≤ 2097152; omega
                    have e1 : (E : Int) < (xs.size : Int) := by omega
                    have v1 : ((V : Int) == (n : Int) - 1) = true := by
                      have := HJN.out
                      rw [beq_iff_eq]; omega
                    have n9 : (0 : Int) < (n : Int) := by have := HJN.out; omega
                    clear hsz hne hll hex hed hV hsc hwl hlt hE hbs3 bW3 hZ
                    go_wp2_with fail
                    go_at_call 13
                    refine (scan_at RR.out (some ⟨w2.heap.size, 0, none⟩) _ Z c5 _ _ (tx l V) E V HSC2.out HVL.out HZL.out HZB.out (fun e => nomatch e) hc5 HB3.out (Nat.le_refl _)).mono ?_
                    rintro e w5 ⟨⟨A5, c6, rfl, hA5, hc6, -⟩, hb5⟩
                    have BW5 := Lib.hid (below_then BW3.out hb5)
                    clear hA5 hb5 hcv
                    go_wp2_with (go_at_call 9; refine (told_any RR.out _).mono ?_; rintro e w' ⟨rfl, hb⟩)
                    go_ret
                    exact ⟨rfl, below_then BW5.out hb⟩
end Go.Proofs.Ytmikdnjjnadimaa
