/- The contract of the document's own Scan (scriptoriumref3.Scan). -/
import Derived.Test.YtmikdnjjnadimaaRefFrame
import Derived.Test.YtmikdnjjnadimaaOwnInts
namespace Go.Proofs.Ytmikdnjjnadimaa
open Go.RowKit
set_option linter.unusedVariables false
def sv (l : List UInt8) : Value := .string ⟨l.toArray⟩
/-- What has been read after some frames. -/
structure RAt (X : List UInt8) (at_ : Nat) (ls : List (List UInt8)) : Prop where
  a1 : at_ ≤ X.length
  a2 : 8 * ls.length ≤ at_
  sc : Rec.scan X = (ls ++ (Rec.scan (X.drop at_)).1, at_ + (Rec.scan (X.drop at_)).2)
theorem RAt.done {X : List UInt8} {at_ : Nat} {ls : List (List UInt8)} (h : RAt X at_ ls) (hn : Rec.ok (X.drop at_) = false) : Rec.scan X = (ls, at_) := by
  rw [h.sc, Rec.scan_no hn]; simp
theorem RAt.next {X : List UInt8} {at_ N : Nat} {ls : List (List UInt8)} (h : RAt X at_ ls) (hn : Rec.ok (X.drop at_) = true) (hN : Rec.num (X.drop at_) = N) (hl : at_ + 8 + N ≤ X.length) :
    RAt X (at_ + 8 + N) (ls ++ [((X.drop at_).drop 8).take N]) := by
  subst hN
  refine ⟨hl, by have := h.a2; rw [List.length_append]; simp; omega, ?_⟩
  have e : (X.drop at_).drop (8 + Rec.num (X.drop at_)) = X.drop (at_ + 8 + Rec.num (X.drop at_)) := by rw [List.drop_drop, Nat.add_assoc]
  rw [h.sc, Rec.scan_step _ hn, e]
  refine Prod.ext ?_ ?_
  · simp
  · show at_ + (8 + Rec.num (X.drop at_) + _) = _
    omega
def SInv (w : World) (X : List UInt8) (v i : Value) (wr : World) : Prop :=
  ∃ (at_ : Nat) (ls : List (List UInt8)), RAt X at_ ls ∧ wr.ownsRow w.heap.size 9 1 v ls.length (ls.map sv) ∧ i = .int .i64 at_ ∧ Below w.heap.size w wr
theorem short_no {Y : List UInt8} (h : Y.length < 8) : Rec.ok Y = false := by
  simp [Rec.ok]
  omega
theorem great_no {Y : List UInt8} (h : 1048576 < Rec.num Y ∨ Y.length < 8 + Rec.num Y) : Rec.ok Y = false := by
  have : decide (8 ≤ Y.length ∧ Rec.num Y ≤ 1048576 ∧ 8 + Rec.num Y ≤ Y.length) = false := decide_eq_false (by omega)
  rw [Rec.ok, this, Bool.false_and]
set_option maxRecDepth 20000 in
set_option maxHeartbeats 4000000 in
theorem scan_any (x : ByteArray) (h : x.size ≤ 2097152) (w : World) :
    Calls Try.prog 14 #[.string x] w fun e w' => (∃ A c n, e = .returned (.tuple #[.slice A n c, .int .i64 ((Rec.scan x.data.toList).2 : Int)]) ∧ n = (Rec.scan x.data.toList).1.length ∧ n ≤ c ∧ Row w' A ((Rec.scan x.data.toList).1.map sv)) ∧ Below w.heap.size w w' := by
  have h0 : (x.size : Int) ≤ 2097152 := by omega
  obtain ⟨X, hX⟩ : ∃ X, x.data.toList = X := ⟨_, rfl⟩
  rw [hX]
  have hXl : X.length = x.size := by rw [← hX]; simp
  have HX := Lib.hid hX
  have HXL := Lib.hid hXl
  clear hX hXl
  go_enter Try.func14, Try.ntmps14
  go_wp2_with fail
  go_loopw [4, 5] (fun v i wr => SInv w X v i wr) (fun _ i _ => x.size - (intOf i).toNat)
  case atStart => exact ⟨0, [], ⟨Nat.zero_le _, Nat.le_refl _, by simp⟩, World.ownsRow_nil _ _ _ _, rfl, Below.refl _ _⟩
  case round =>
    obtain ⟨at_, ls, hr, hown, rfl, hbw⟩ := hrel
    have HR := Lib.hid hr
    have OW := Lib.hid hown
    have BW := Lib.hid hbw
    have a0 : (0 : Int) ≤ (at_ : Int) := by omega
    have a1 : (at_ : Int) ≤ (x.size : Int) := by have := hr.a1; have := HXL.out; omega
    obtain ⟨Y, hY⟩ : ∃ Y, X.drop at_ = Y := ⟨_, rfl⟩
    have hYl : Y.length = x.size - at_ := by rw [← hY, List.length_drop, HXL.out]
    clear hr hown hbw
    by_cases h8 : at_ + 8 ≤ x.size
    · have i8 : (8 : Int) ≤ (x.size : Int) - (at_ : Int) := by omega
      obtain ⟨y0, y1, y2, y3, r, hYr⟩ : ∃ y0 y1 y2 y3 r, Y = y0 :: y1 :: y2 :: y3 :: r := by
        have h8' : 8 ≤ Y.length := by omega
        clear hY hYl
        match Y, h8' with
        | y0 :: y1 :: y2 :: y3 :: r, _ => exact ⟨y0, y1, y2, y3, r, rfl⟩
      have hs4 : (ByteArray.extract x at_ (at_ + 4)).data.toList = [y0, y1, y2, y3] := by
        rw [ByteArray.data_extract, Array.toList_extract, List.extract_eq_take_drop, HX.out, hY, hYr, Nat.add_sub_cancel_left]
        rfl
      obtain ⟨N, hN⟩ : ∃ N, Rec.num Y = N := ⟨_, rfl⟩
      have hs5 : Rec.num (ByteArray.extract x at_ (at_ + 4)).data.toList = N := by rw [hs4, ← hN, hYr]; rfl
      have HS4 := Lib.hid hs4
      have HS5 := Lib.hid hs5
      have HN := Lib.hid hN
      have HY := Lib.hid hY
      have HYL := Lib.hid hYl
      have N0 : (0 : Int) ≤ (N : Int) := by omega
      clear hs4 hs5 hN hY hYr hYl
      go_wp2_with fail
      go_at_call 21
      refine (number_any _ y0 y1 y2 y3 [] HS4.out _).mono ?_
      rintro e w1 ⟨rfl, hb1⟩
      rw [HS5.out]
      have BW1 := Lib.hid (below_then BW.out hb1)
      have OW1 := Lib.hid (own_keep OW.out hb1)
      clear OW hb1
      by_cases hg : 1048576 < N
      · have g1 : 1048576 < (N : Int) := by omega
        have hd := HR.out.done (by rw [HY.out]; exact great_no (.inl (by rw [HN.out]; exact hg)))
        obtain ⟨A1, c1, rfl, hEl, -, hc1, hrow⟩ := own_row OW1.out
        have HD := Lib.hid hd
        have HROW := Lib.hid hrow
        clear OW1 hd hrow hEl
        go_wp2_with fail
        go_ret2
        refine ⟨⟨A1, c1, ls.length, ?_, ?_, hc1, ?_⟩, BW1.out⟩
        · rw [HD.out]; rfl
        · rw [HD.out]
        · rw [HD.out]; exact HROW.out
      · have g1 : (N : Int) ≤ 1048576 := by omega
        by_cases hl : at_ + 8 + N ≤ x.size
        · have l1 : (N : Int) ≤ (x.size : Int) - (at_ : Int) - 8 := by omega
          obtain ⟨bd, hbd⟩ : ∃ bd, x.extract (at_ + 8) (at_ + 8 + N) = bd := ⟨_, rfl⟩
          have hbB : bd.data.toList = (Y.drop 8).take N := by
            rw [← hbd, ByteArray.data_extract, Array.toList_extract, List.extract_eq_take_drop, HX.out, Nat.add_sub_cancel_left, ← HY.out, List.drop_drop]
          have hbz : bd.size = N := by
            have : bd.data.toList.length = N := by rw [hbB, List.length_take, List.length_drop, HYL.out]; omega
            simpa using this
          have hwh : (x.extract at_ (at_ + 8 + N)).data.toList = Y.take (8 + N) := by
            rw [ByteArray.data_extract, Array.toList_extract, List.extract_eq_take_drop, HX.out, ← HY.out]
            congr 1
            omega
          have hok := Rec.ok_iff Y (by rw [HYL.out]; omega) (by rw [HN.out]; omega) (by rw [HN.out, HYL.out]; omega)
          rw [HN.out, ← hbB, ← hwh] at hok
          have hbs : bd.size ≤ 1048576 := by omega
          have HBB := Lib.hid hbB
          have HOK := Lib.hid hok
          clear hbB hwh hok
          go_wp2_with fail
          rw [hbd]
          go_at_call 11
          refine (frame_any bd hbs _).mono ?_
          rintro e w2 ⟨rfl, hb2⟩
          have BW2 := Lib.hid (below_then BW1.out hb2)
          have OW2 := Lib.hid (own_keep OW1.out hb2)
          clear OW1 hb2 hbd
          cases hk : Rec.ok Y
          · rw [hk] at HOK
            have hd := HR.out.done (by rw [HY.out]; exact hk)
            have ht : (Rec.fr bd.data.toList == (x.extract at_ (at_ + 8 + N)).toList) = false := by rw [ByteArray.toList_eq]; exact HOK.out.symm
            have ht2 : (Rec.fr bd.data.toList != (x.extract at_ (at_ + 8 + N)).toList) = true := by rw [bne, ht]; rfl
            obtain ⟨A1, c1, rfl, hEl, -, hc1, hrow⟩ := own_row OW2.out
            have HD := Lib.hid hd
            have HROW := Lib.hid hrow
            clear OW2 hd hrow hEl
            go_wp2_with fail
            go_ret2
            refine ⟨⟨A1, c1, ls.length, ?_, ?_, hc1, ?_⟩, BW2.out⟩
            · rw [HD.out]; rfl
            · rw [HD.out]
            · rw [HD.out]; exact HROW.out
          · rw [hk] at HOK
            have ht : (Rec.fr bd.data.toList == (x.extract at_ (at_ + 8 + N)).toList) = true := by rw [ByteArray.toList_eq]; exact HOK.out.symm
            have ht2 : (Rec.fr bd.data.toList != (x.extract at_ (at_ + 8 + N)).toList) = false := by rw [bne, ht]; rfl
            have hnx := HR.out.next (N := N) (by rw [HY.out]; exact hk) (by rw [HY.out]; exact HN.out) (by rw [HXL.out]; exact hl)
            rw [HY.out, ← HBB.out] at hnx
            have HNX := Lib.hid hnx
            have hll : ls.length ≤ 1099511627776 := by have := HR.out.a2; omega
            clear hnx
            go_wp2_with (at_builtin; refine wpList_append_str rfl (.tmp 54) (.tmp 56) rfl w _ ls.length _ rfl (own_keep OW2.out ((Below.refl _ _).alloc (Nat.le_refl _) _)) (BW2.out.alloc BW2.out.size _) ⟨w2.heap.size, 0, none⟩ _ _ rfl (cell_new _ _ _) hll ?_; intro v3 w3 own3 bw3)
            go_roundw
            case rel => exact ⟨at_ + 8 + N, _, HNX.out, by rw [List.length_append, List.map_append]; exact own3, by go_num, bw3⟩
            case measure => simp [intOf]; omega
        · have l1 : (x.size : Int) - (at_ : Int) - 8 < (N : Int) := by omega
          have hd := HR.out.done (by rw [HY.out]; exact great_no (.inr (by rw [HN.out, HYL.out]; omega)))
          obtain ⟨A1, c1, rfl, hEl, -, hc1, hrow⟩ := own_row OW1.out
          have HD := Lib.hid hd
          have HROW := Lib.hid hrow
          clear OW1 hd hrow hEl
          go_wp2_with fail
          go_ret2
          refine ⟨⟨A1, c1, ls.length, ?_, ?_, hc1, ?_⟩, BW1.out⟩
          · rw [HD.out]; rfl
          · rw [HD.out]
          · rw [HD.out]; exact HROW.out
    · have i8 : (x.size : Int) - (at_ : Int) < 8 := by omega
      have hd := HR.out.done (by rw [hY]; exact short_no (by omega))
      obtain ⟨A1, c1, rfl, hEl, -, hc1, hrow⟩ := own_row OW.out
      have HD := Lib.hid hd
      have HROW := Lib.hid hrow
      clear OW hd hrow hEl
      go_wp2_with fail
      go_ret2
      refine ⟨⟨A1, c1, ls.length, ?_, ?_, hc1, ?_⟩, BW.out⟩
      · rw [HD.out]; rfl
      · rw [HD.out]
      · rw [HD.out]; exact HROW.out
end Go.Proofs.Ytmikdnjjnadimaa
