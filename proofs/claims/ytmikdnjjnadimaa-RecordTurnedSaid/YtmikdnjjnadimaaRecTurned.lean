/- The walk of the law RecordTurned, out of what is asked of package record. -/
import Derived.Test.YtmikdnjjnadimaaRecTx
import Derived.Test.YtmikdnjjnadimaaSlices
import Derived.Test.YtmikdnjjnadimaaConv
namespace Go.Proofs.Ytmikdnjjnadimaa
open Go.RowKit
set_option linter.unusedVariables false
theorem turn_val (b : UInt8) (J : Nat) : bits .xor .u8 (b.toNat : Int) ((2 : Int) ^ (J % 8) % 256) = ((b ^^^ UInt8.ofNat (2 ^ (J % 8))).toNat : Int) := by
  have p : 2 ^ (J % 8) < 256 := Nat.lt_of_lt_of_le (Nat.pow_lt_pow_right (by decide) (Nat.mod_lt J (by decide))) (by decide)
  have e : ((2 : Int) ^ (J % 8) % 256) = ((UInt8.ofNat (2 ^ (J % 8))).toNat : Int) := by
    rw [UInt8.toNat_ofNat', Nat.mod_eq_of_lt p, show ((2 : Int) ^ (J % 8)) = ((2 ^ (J % 8) : Nat) : Int) from (Int.natCast_pow 2 (J % 8)).symm]
    generalize 2 ^ (J % 8) = y at *
    omega
  rw [e, b8_xor]
/-- Where the chosen frame begins, once it has been met. -/
def atk (l : List ByteArray) (k j : Nat) : Nat := if k < j then (Rec.frs (tx l k)).length else 0
def TInv (w : World) (l : List ByteArray) (N k : Nat) (vs va i : Value) (wr : World) : Prop :=
  ∃ (j : Nat) (xs : ByteArray), (CAt l j xs.data.toList ∧ j ≤ N) ∧ vs = .string xs ∧ va = .int .i64 (atk l k j) ∧ i = .int .i64 j ∧ Below w.heap.size w wr
set_option maxRecDepth 20000 in
set_option maxHeartbeats 4000000 in
theorem turned_walk (R : RecOk) (A : Option Addr) (l : List ByteArray) (n ca : Nat) (hn : l.length = n) (t1 t2 : Int) (hA : A = none → ca = 0) (hcap : n ≤ ca) (w : World) (hl : Row w A (l.map Value.string)) :
    Calls Try.prog 5 #[.slice A n ca, .int .i64 t1, .int .i64 t2] w fun e w' => e = .returned (.bool true) ∧ Below w.heap.size w w' := by
  have RR := Lib.hid R
  have HA := Lib.hid hA
  have KL := Lib.hid hl
  have HN := Lib.hid hn
  clear R hA hl hn
  by_cases h0 : n = 0
  · have n2 : ((n : Int) == 0) = true := by simp [h0]
    go_enter Try.func5, Try.ntmps5
    go_wp2_with fail
    go_at_call 9
    refine (told_any RR.out _).mono ?_
    rintro e w2 ⟨rfl, h2⟩
    go_wp2_with fail
    go_ret
    exact ⟨rfl, h2⟩
  have n2 : ((n : Int) == 0) = false := beq_eq_false_iff_ne.mpr (by omega)
  have hca : (n : Int) ≤ (ca : Int) := by omega
  by_cases h10 : n ≤ 10
  · have n3 : (n : Int) ≤ 10 := by omega
    have nd : decide (10 < (n : Int)) = false := by simp; omega
    skip
    obtain ⟨k, hk, hkm⟩ := mod_lt t1 n (by omega) (by omega)
    skip
    have HKN := Lib.hid hk
    go_enter Try.func5, Try.ntmps5
    go_wp2_with fail
    rw [hkm]
    go_loopw [7, 8, 10] (fun vs va i wr => TInv w l n k vs va i wr) (fun _ _ i _ => n - (intOf i).toNat)
    case atStart => exact ⟨0, ⟨#[]⟩, ⟨⟨Nat.zero_le _, by simp [tx], rfl, Nat.le_refl _⟩, Nat.zero_le _⟩, rfl, by rw [atk, if_neg (Nat.not_lt_zero _)]; rfl, rfl, Below.refl _ _⟩
    case round =>
      obtain ⟨j, xs, ⟨hk1, hj10⟩, rfl, rfl, rfl, hbw⟩ := hrel
      have HK := Lib.hid hk1
      have HJ := Lib.hid hj10
      have BW := Lib.hid hbw
      have hls : xs.size = xs.data.toList.length := by simp
      have HLS : Hid (xs.size ≤ 3080) := by show xs.size ≤ 3080; rw [hls]; have := hk1.s2; omega
      obtain ⟨at_, hat⟩ : ∃ a, atk l k j = a := ⟨_, rfl⟩
      rw [hat]
      have HAT := Lib.hid hat
      have hn10 : n ≤ 10 := by omega
      clear hk1 hbw hls hat
      have j0 : (0 : Int) ≤ (j : Int) := by omega
      by_cases hlt : j < n
      · have hjn : j < n := by omega
        have j1 : (j : Int) < (n : Int) := by omega
        have j2 : (j : Int) < 10 := by omega
        obtain ⟨pA, rfl, -, cA⟩ := (KL.out.later BW.out).at_ j (by rw [HN.out]; exact hjn)
        obtain ⟨x, hx⟩ : ∃ x, x = l[j]'(by rw [HN.out]; exact hjn) := ⟨_, rfl⟩
        have HX := Lib.hid hx
        rw [← hx] at cA
        clear hx
        by_cases hsz : x.size ≤ 300
        · have z1 : (x.size : Int) ≤ 300 := by omega
          obtain ⟨W1, c1, hcv, bW1, hc1, hbs1⟩ := conv_str wr x
          have HB1 := Lib.hid hbs1
          have BW1 := Lib.hid bW1
          have HX1 := Lib.hid (show x.data.toList.length = x.size by simp)
          clear hbs1 bW1
          go_wp2_with fail
          go_at_call 10
          refine (frame_at RR.out (some ⟨wr.heap.size, 0, none⟩) x.data.toList x.size c1 _ _ HX1.out (by omega) (fun e => nomatch e) HB1.out (Nat.le_refl _)).mono ?_
          rintro e w2 ⟨⟨A2, c2, rfl, hA2, hc2, hr2⟩, hb2⟩
          have HB2 := Lib.hid (below_then BW1.out hb2)
          have cA2 : w2.cell? (pA.add j) = some (.string x) := by
            obtain ⟨pA', e', -, cA'⟩ := (KL.out.later (below_then BW.out HB2.out)).at_ j (by rw [HN.out]; exact hjn)
            obtain rfl : pA = pA' := by injection e'
            rw [HX.out]; exact cA'
          have cv := convert_n c2 (x.size + 8) (by rw [Rec.fr_length, HX1.out]; omega) hr2
          have za : ¬ 9223372036854775807 < xs.size + (x.size + 8) := by have := HLS.out; omega
          have BW2 := Lib.hid (below_then BW.out HB2.out)
          have hfs : (ByteArray.mk (Rec.fr x.data.toList).toArray).size = x.size + 8 := by
            show (Rec.fr x.data.toList).toArray.size = _
            rw [List.size_toArray, Rec.fr_length, HX1.out]; omega
          clear hA2 hr2 hb2 cA hcv
          have eX : Hid ((xs ++ ByteArray.mk (Rec.fr x.data.toList).toArray).data.toList = xs.data.toList ++ Rec.fr x.data.toList) := by
            show (xs ++ ByteArray.mk (Rec.fr x.data.toList).toArray).data.toList = xs.data.toList ++ Rec.fr x.data.toList
            simp
          have hnx := HK.out.next (by rw [HN.out]; exact hjn) (by rw [← HX.out]; exact hsz)
          rw [← HX.out, ← eX.out] at hnx
          have HNX := Lib.hid hnx
          clear hnx
          by_cases hkj : j = k
          · subst hkj
            have ea : Hid (((xs.size : Nat) : Int) = ((atk l j (j + 1) : Nat) : Int)) := by
              show ((xs.size : Nat) : Int) = ((atk l j (j + 1) : Nat) : Int)
              rw [atk, if_pos (by omega), ← HK.out.s1]
              simp
            go_wp2_with fail
            go_roundw
            case rel =>
              exact ⟨j + 1, _, ⟨HNX.out, hlt⟩, rfl, by rw [← ea.out], by go_num, BW2.out⟩
            case measure => simp [intOf]; omega
          · have k1 : ((j : Int) == (k : Int)) = false := beq_eq_false_iff_ne.mpr (by omega)
            have ea : Hid (at_ = atk l k (j + 1)) := by
              show at_ = atk l k (j + 1)
              rw [← HAT.out, atk, atk]
              by_cases e : k < j
              · rw [if_pos e, if_pos (by omega)]
              · rw [if_neg e, if_neg (by omega)]
            go_wp2_with fail
            go_roundw
            case rel =>
              exact ⟨j + 1, _, ⟨HNX.out, hlt⟩, rfl, by rw [← ea.out], by go_num, BW2.out⟩
            case measure => simp [intOf]; omega
        · have z1 : 300 < (x.size : Int) := by omega
          go_wp2_with fail
          go_at_call 9
          refine (told_any RR.out wr).mono ?_
          rintro e w2 ⟨rfl, h2⟩
          go_wp2_with fail
          go_ret
          exact ⟨rfl, below_then BW.out h2⟩
      · have j1 : (n : Int) ≤ (j : Int) := by omega
        have HJN : Hid (j = n) := by show j = n; have := HJ.out; omega
        have hkj : k < j := by rw [HJN.out]; exact HKN.out
        have hkn : k < n := by omega
        have HL := Lib.hid HN.out
        obtain ⟨x, hx⟩ : ∃ x, x = l[k]'(by rw [HN.out]; exact hkn) := ⟨_, rfl⟩
        have hat2 : at_ = (Rec.frs (tx l k)).length := by rw [← HAT.out, atk, if_pos hkj]
        have hkt : k < (tx l j).length := by rw [tx_length HK.out.j1]; exact hkj
        have htx : (tx l j)[k] = x.data.toList := by
          obtain ⟨_, e⟩ := tx_at hkt
          rw [e, hx]
        have hxs : x.data.toList.length = x.size := by simp
        have hxz : x.size ≤ 300 := by
          have := HK.out.sm _ (List.getElem_mem hkt)
          rwa [htx, hxs] at this
        obtain ⟨S, hS⟩ : ∃ S, xs.data.toList = S := ⟨_, rfl⟩
        have hSl : S.length = xs.size := by rw [← hS]; simp
        have hSf : S = Rec.frs (tx l j) := by rw [← hS]; exact HK.out.s1
        have hin : at_ + (8 + x.size) ≤ S.length := by
          have e : tx l j = tx l k ++ ((tx l j)[k] :: (tx l j).drop (k + 1)) := by
            conv => lhs; rw [← List.take_append_drop k (tx l j), List.drop_eq_getElem_cons hkt, tx_take l k j (by omega)]
          rw [hSf, e, Rec.frs_append, Rec.frs, htx, hat2]
          simp only [List.length_append, Rec.fr_length, hxs]
          omega
        obtain ⟨J, hJ, hJm⟩ := mod_lt t2 (8 * (x.size + 4)) (by omega) (by omega)
        have hJm2 : wrap64 ((IntKind.u64.wrap t2).tmod (8 * ((x.size : Int) + 4))) = (J : Int) := by
          rw [← hJm]; simp
        have hP : at_ + 4 + J / 8 < S.length := by omega
        have hsc : Rec.scan (S.set (at_ + 4 + J / 8) (S[at_ + 4 + J / 8] ^^^ UInt8.ofNat (2 ^ (J % 8)))) = (tx l k, at_) := by
          have h := Rec.scan_turned (tx l j) k (J / 8) (J % 8) hkt (fun y hy => Nat.le_trans (HK.out.sm y hy) (by decide)) (by rw [htx, hxs]; omega) (Nat.mod_lt _ (by decide))
          rw [tx_take l k j (by omega), ← hat2, ← hSf, ← Nat.add_assoc] at h
          rw [← h, Rec.flip]
          congr 3
          simp [List.getD, hP]
        obtain ⟨W1, c1, hcv, bW1, hc1, own1⟩ := conv_own wr xs
        rw [hS] at own1
        obtain ⟨xc, xf⟩ := own1.2 _ hP
        obtain ⟨d, hd⟩ : ∃ d, S[at_ + 4 + J / 8] = d := ⟨_, rfl⟩
        rw [hd] at xc hsc
        have hown2 := own1.put _ hP (d ^^^ UInt8.ofNat (2 ^ (J % 8)))
        have HSC := Lib.hid hsc
        have HO2 := Lib.hid hown2
        have HV := Lib.hid (turn_val d J)
        have BW1 := Lib.hid (below_then BW.out bW1)
        have bl : Hid (w.heap.size ≤ wr.heap.size) := BW.out.size
        have HSL := Lib.hid hSl
        have hk9 : Hid (k ≤ l.length) := by show k ≤ l.length; rw [HN.out]; omega
        have HTK : Hid ((tx l k).length = k) := tx_length hk9.out
        have cA : ∃ pA, A = some pA ∧ W1.cell? (pA.add k) = some (.string x) := by
          obtain ⟨pA, e, -, c⟩ := (KL.out.later BW1.out).at_ k (by rw [HN.out]; exact hkn)
          exact ⟨pA, e, by rw [hx]; exact c⟩
        obtain ⟨pA, rfl, cA⟩ := cA
        have k0 : (0 : Int) ≤ (k : Int) := by omega
        have k1 : (k : Int) < (n : Int) := by have := HKN.out; omega
        have x0 : (x.size : Int) ≤ 300 := by omega
        have a1 : (at_ : Int) ≤ 3080 := by have := HLS.out; omega
        have J1 : (J : Int) < 2432 := by omega
        have i1 : (at_ : Int) + 4 + (J : Int) / 8 < (xs.size : Int) := by omega
        clear hx hat2 hkt htx hxs hxz hS hSf hin hJ hJm hsc own1 hd hown2 bW1 hSl hP
        go_wp2_with fail
        go_at_call 13
        rw [HV.out]
        refine (scan_at RR.out (some ⟨wr.heap.size, 0, none⟩) _ xs.size c1 _ _ (tx l k) at_ k HSC.out HTK.out (by rw [List.length_set]; exact HSL.out) (by have := HLS.out; omega) (fun e => nomatch e) hc1 HO2.out.reads (Nat.le_refl _)).mono ?_
        rintro e w2 ⟨⟨A2, c2, rfl, hA2, hc2, -⟩, hb2⟩
        have BW2 := Lib.hid (below_then (BW1.out.setCell (p := ⟨wr.heap.size, at_ + 4 + J / 8, none⟩) bl.out (.int .u8 ((d ^^^ UInt8.ofNat (2 ^ (J % 8))).toNat : Int))) hb2)
        clear hA2 hb2
        go_wp2_with (go_at_call 9; refine (told_any RR.out _).mono ?_; rintro e w' ⟨rfl, hb⟩)
        go_ret
        exact ⟨rfl, below_then BW2.out hb⟩
  · have n3 : (n : Int) > 10 := by omega
    have nd : decide (10 < (n : Int)) = true := by simp; omega
    skip
    obtain ⟨k, hk, hkm⟩ := mod_lt t1 10 (by omega) (by omega)
    have hkm : wrap64 ((IntKind.u64.wrap t1).tmod 10) = (k : Int) := hkm
    have HKN := Lib.hid hk
    go_enter Try.func5, Try.ntmps5
    go_wp2_with fail
    rw [hkm]
    go_loopw [7, 8, 10] (fun vs va i wr => TInv w l 10 k vs va i wr) (fun _ _ i _ => 10 - (intOf i).toNat)
    case atStart => exact ⟨0, ⟨#[]⟩, ⟨⟨Nat.zero_le _, by simp [tx], rfl, Nat.le_refl _⟩, Nat.zero_le _⟩, rfl, by rw [atk, if_neg (Nat.not_lt_zero _)]; rfl, rfl, Below.refl _ _⟩
    case round =>
      obtain ⟨j, xs, ⟨hk1, hj10⟩, rfl, rfl, rfl, hbw⟩ := hrel
      have HK := Lib.hid hk1
      have HJ := Lib.hid hj10
      have BW := Lib.hid hbw
      have hls : xs.size = xs.data.toList.length := by simp
      have HLS : Hid (xs.size ≤ 3080) := by show xs.size ≤ 3080; rw [hls]; have := hk1.s2; omega
      obtain ⟨at_, hat⟩ : ∃ a, atk l k j = a := ⟨_, rfl⟩
      rw [hat]
      have HAT := Lib.hid hat
      have hn10 : 10 ≤ 10 := by omega
      clear hk1 hbw hls hat
      have j0 : (0 : Int) ≤ (j : Int) := by omega
      by_cases hlt : j < 10
      · have hjn : j < n := by omega
        have j1 : (j : Int) < (10 : Int) := by omega
        have j2 : (j : Int) < 10 := by omega
        obtain ⟨pA, rfl, -, cA⟩ := (KL.out.later BW.out).at_ j (by rw [HN.out]; exact hjn)
        obtain ⟨x, hx⟩ : ∃ x, x = l[j]'(by rw [HN.out]; exact hjn) := ⟨_, rfl⟩
        have HX := Lib.hid hx
        rw [← hx] at cA
        clear hx
        by_cases hsz : x.size ≤ 300
        · have z1 : (x.size : Int) ≤ 300 := by omega
          obtain ⟨W1, c1, hcv, bW1, hc1, hbs1⟩ := conv_str wr x
          have HB1 := Lib.hid hbs1
          have BW1 := Lib.hid bW1
          have HX1 := Lib.hid (show x.data.toList.length = x.size by simp)
          clear hbs1 bW1
          go_wp2_with fail
          go_at_call 10
          refine (frame_at RR.out (some ⟨wr.heap.size, 0, none⟩) x.data.toList x.size c1 _ _ HX1.out (by omega) (fun e => nomatch e) HB1.out (Nat.le_refl _)).mono ?_
          rintro e w2 ⟨⟨A2, c2, rfl, hA2, hc2, hr2⟩, hb2⟩
          have HB2 := Lib.hid (below_then BW1.out hb2)
          have cA2 : w2.cell? (pA.add j) = some (.string x) := by
            obtain ⟨pA', e', -, cA'⟩ := (KL.out.later (below_then BW.out HB2.out)).at_ j (by rw [HN.out]; exact hjn)
            obtain rfl : pA = pA' := by injection e'
            rw [HX.out]; exact cA'
          have cv := convert_n c2 (x.size + 8) (by rw [Rec.fr_length, HX1.out]; omega) hr2
          have za : ¬ 9223372036854775807 < xs.size + (x.size + 8) := by have := HLS.out; omega
          have BW2 := Lib.hid (below_then BW.out HB2.out)
          have hfs : (ByteArray.mk (Rec.fr x.data.toList).toArray).size = x.size + 8 := by
            show (Rec.fr x.data.toList).toArray.size = _
            rw [List.size_toArray, Rec.fr_length, HX1.out]; omega
          clear hA2 hr2 hb2 cA hcv
          have eX : Hid ((xs ++ ByteArray.mk (Rec.fr x.data.toList).toArray).data.toList = xs.data.toList ++ Rec.fr x.data.toList) := by
            show (xs ++ ByteArray.mk (Rec.fr x.data.toList).toArray).data.toList = xs.data.toList ++ Rec.fr x.data.toList
            simp
          have hnx := HK.out.next (by rw [HN.out]; exact hjn) (by rw [← HX.out]; exact hsz)
          rw [← HX.out, ← eX.out] at hnx
          have HNX := Lib.hid hnx
          clear hnx
          by_cases hkj : j = k
          · subst hkj
            have ea : Hid (((xs.size : Nat) : Int) = ((atk l j (j + 1) : Nat) : Int)) := by
              show ((xs.size : Nat) : Int) = ((atk l j (j + 1) : Nat) : Int)
              rw [atk, if_pos (by omega), ← HK.out.s1]
              simp
            go_wp2_with fail
            go_roundw
            case rel =>
              exact ⟨j + 1, _, ⟨HNX.out, hlt⟩, rfl, by rw [← ea.out], by go_num, BW2.out⟩
            case measure => simp [intOf]; omega
          · have k1 : ((j : Int) == (k : Int)) = false := beq_eq_false_iff_ne.mpr (by omega)
            have ea : Hid (at_ = atk l k (j + 1)) := by
              show at_ = atk l k (j + 1)
              rw [← HAT.out, atk, atk]
              by_cases e : k < j
              · rw [if_pos e, if_pos (by omega)]
              · rw [if_neg e, if_neg (by omega)]
            go_wp2_with fail
            go_roundw
            case rel =>
              exact ⟨j + 1, _, ⟨HNX.out, hlt⟩, rfl, by rw [← ea.out], by go_num, BW2.out⟩
            case measure => simp [intOf]; omega
        · have z1 : 300 < (x.size : Int) := by omega
          go_wp2_with fail
          go_at_call 9
          refine (told_any RR.out wr).mono ?_
          rintro e w2 ⟨rfl, h2⟩
          go_wp2_with fail
          go_ret
          exact ⟨rfl, below_then BW.out h2⟩
      · have j1 : (10 : Int) ≤ (j : Int) := by omega
        have HJN : Hid (j = 10) := by show j = 10; have := HJ.out; omega
        have hkj : k < j := by rw [HJN.out]; exact HKN.out
        have hkn : k < n := by omega
        have HL := Lib.hid HN.out
        obtain ⟨x, hx⟩ : ∃ x, x = l[k]'(by rw [HN.out]; exact hkn) := ⟨_, rfl⟩
        have hat2 : at_ = (Rec.frs (tx l k)).length := by rw [← HAT.out, atk, if_pos hkj]
        have hkt : k < (tx l j).length := by rw [tx_length HK.out.j1]; exact hkj
        have htx : (tx l j)[k] = x.data.toList := by
          obtain ⟨_, e⟩ := tx_at hkt
          rw [e, hx]
        have hxs : x.data.toList.length = x.size := by simp
        have hxz : x.size ≤ 300 := by
          have := HK.out.sm _ (List.getElem_mem hkt)
          rwa [htx, hxs] at this
        obtain ⟨S, hS⟩ : ∃ S, xs.data.toList = S := ⟨_, rfl⟩
        have hSl : S.length = xs.size := by rw [← hS]; simp
        have hSf : S = Rec.frs (tx l j) := by rw [← hS]; exact HK.out.s1
        have hin : at_ + (8 + x.size) ≤ S.length := by
          have e : tx l j = tx l k ++ ((tx l j)[k] :: (tx l j).drop (k + 1)) := by
            conv => lhs; rw [← List.take_append_drop k (tx l j), List.drop_eq_getElem_cons hkt, tx_take l k j (by omega)]
          rw [hSf, e, Rec.frs_append, Rec.frs, htx, hat2]
          simp only [List.length_append, Rec.fr_length, hxs]
          omega
        obtain ⟨J, hJ, hJm⟩ := mod_lt t2 (8 * (x.size + 4)) (by omega) (by omega)
        have hJm2 : wrap64 ((IntKind.u64.wrap t2).tmod (8 * ((x.size : Int) + 4))) = (J : Int) := by
          rw [← hJm]; simp
        have hP : at_ + 4 + J / 8 < S.length := by omega
        have hsc : Rec.scan (S.set (at_ + 4 + J / 8) (S[at_ + 4 + J / 8] ^^^ UInt8.ofNat (2 ^ (J % 8)))) = (tx l k, at_) := by
          have h := Rec.scan_turned (tx l j) k (J / 8) (J % 8) hkt (fun y hy => Nat.le_trans (HK.out.sm y hy) (by decide)) (by rw [htx, hxs]; omega) (Nat.mod_lt _ (by decide))
          rw [tx_take l k j (by omega), ← hat2, ← hSf, ← Nat.add_assoc] at h
          rw [← h, Rec.flip]
          congr 3
          simp [List.getD, hP]
        obtain ⟨W1, c1, hcv, bW1, hc1, own1⟩ := conv_own wr xs
        rw [hS] at own1
        obtain ⟨xc, xf⟩ := own1.2 _ hP
        obtain ⟨d, hd⟩ : ∃ d, S[at_ + 4 + J / 8] = d := ⟨_, rfl⟩
        rw [hd] at xc hsc
        have hown2 := own1.put _ hP (d ^^^ UInt8.ofNat (2 ^ (J % 8)))
        have HSC := Lib.hid hsc
        have HO2 := Lib.hid hown2
        have HV := Lib.hid (turn_val d J)
        have BW1 := Lib.hid (below_then BW.out bW1)
        have bl : Hid (w.heap.size ≤ wr.heap.size) := BW.out.size
        have HSL := Lib.hid hSl
        have hk9 : Hid (k ≤ l.length) := by show k ≤ l.length; rw [HN.out]; omega
        have HTK : Hid ((tx l k).length = k) := tx_length hk9.out
        have cA : ∃ pA, A = some pA ∧ W1.cell? (pA.add k) = some (.string x) := by
          obtain ⟨pA, e, -, c⟩ := (KL.out.later BW1.out).at_ k (by rw [HN.out]; exact hkn)
          exact ⟨pA, e, by rw [hx]; exact c⟩
        obtain ⟨pA, rfl, cA⟩ := cA
        have k0 : (0 : Int) ≤ (k : Int) := by omega
        have k1 : (k : Int) < (10 : Int) := by have := HKN.out; omega
        have x0 : (x.size : Int) ≤ 300 := by omega
        have a1 : (at_ : Int) ≤ 3080 := by have := HLS.out; omega
        have J1 : (J : Int) < 2432 := by omega
        have i1 : (at_ : Int) + 4 + (J : Int) / 8 < (xs.size : Int) := by omega
        clear hx hat2 hkt htx hxs hxz hS hSf hin hJ hJm hsc own1 hd hown2 bW1 hSl hP
        go_wp2_with fail
        go_at_call 13
        rw [HV.out]
        refine (scan_at RR.out (some ⟨wr.heap.size, 0, none⟩) _ xs.size c1 _ _ (tx l k) at_ k HSC.out HTK.out (by rw [List.length_set]; exact HSL.out) (by have := HLS.out; omega) (fun e => nomatch e) hc1 HO2.out.reads (Nat.le_refl _)).mono ?_
        rintro e w2 ⟨⟨A2, c2, rfl, hA2, hc2, -⟩, hb2⟩
        have BW2 := Lib.hid (below_then (BW1.out.setCell (p := ⟨wr.heap.size, at_ + 4 + J / 8, none⟩) bl.out (.int .u8 ((d ^^^ UInt8.ofNat (2 ^ (J % 8))).toNat : Int))) hb2)
        clear hA2 hb2
        go_wp2_with (go_at_call 9; refine (told_any RR.out _).mono ?_; rintro e w' ⟨rfl, hb⟩)
        go_ret
        exact ⟨rfl, below_then BW2.out hb⟩
end Go.Proofs.Ytmikdnjjnadimaa
