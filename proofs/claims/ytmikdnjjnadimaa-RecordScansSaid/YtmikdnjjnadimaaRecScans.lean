/- The walk of the law RecordScans, out of what is asked of package record and the document's own answers. -/
import Derived.Test.YtmikdnjjnadimaaRecFrames
import Derived.Test.YtmikdnjjnadimaaRecMix
import Derived.Test.YtmikdnjjnadimaaRefScan
import Derived.Test.YtmikdnjjnadimaaRecI
import Derived.Deep.RegionHeld3
namespace Go.Proofs.Ytmikdnjjnadimaa
open Go.RowKit
set_option linter.unusedVariables false
theorem row_new (w : World) (l : List Value) (C : Array Value) (t : TypeId) (fr : Nat × Nat) (hC : C = l.toArray) : Row (w.alloc (.cells C t fr)) (some ⟨w.heap.size, 0, none⟩) l := fun i hi => by
  subst hC
  refine ⟨_, rfl, by show w.heap.size < (w.heap.push _).size; simp, ?_⟩
  have e : (⟨w.heap.size, 0, none⟩ : Addr).add i = ⟨w.heap.size, i, none⟩ := by
    unfold Addr.add
    split
    · rename_i h; rw [h]
    · simp
  rw [e, World.cell?_alloc_mark]
  simp [hi]
set_option maxRecDepth 20000 in
set_option maxHeartbeats 8000000 in
theorem scans_walk (R : RecOk) (A B C D : Option Addr) (l : List ByteArray) (bs : List UInt8) (ts : List Int) (ys : List UInt8) (n m k o ca cb cc cd : Nat) (hn : l.length = n) (hm : bs.length = m) (hk : ts.length = k) (ho : ys.length = o)
    (w : World) (hl : Row w A (l.map Value.string)) (hb : Bs w w.heap.size B bs) (ht : Row w C (ts.map (Value.int .i64))) (hy : Bs w w.heap.size D ys) :
    Calls Try.prog 3 #[.slice A n ca, .slice B m cb, .slice C k cc, .slice D o cd] w fun e w' => e = .returned (.bool true) ∧ Below w.heap.size w w' := by
  have RR := Lib.hid R
  have KL := Lib.hid hl
  have KB := Lib.hid hb
  have KT := Lib.hid ht
  have KY := Lib.hid hy
  have HN := Lib.hid hn
  have HM := Lib.hid hm
  have HK := Lib.hid hk
  have HO := Lib.hid ho
  clear R hl hb ht hy hn hm hk ho
  go_enter Try.func3, Try.ntmps3
  go_wp2_with fail
  go_at_call 8
  refine (frames_any A l n ca HN.out w KL.out).mono ?_
  rintro e w1 ⟨⟨xs, ok, rfl, hxs, hok⟩, hb1⟩
  have HXS := Lib.hid hxs
  have HSM := Lib.hid hok
  have BW1 := Lib.hid hb1
  clear hxs hok hb1
  by_cases hgo : ok = true ∧ m ≤ 600
  · obtain ⟨rfl, hm6⟩ := hgo
    have m1 : (m : Int) ≤ 600 := by omega
    have HSN := Lib.hid (HSM.out rfl)
    clear HSM
    go_wp2_with fail
    go_loopw [11] (fun i wr => ∃ j : Nat, (j ≤ n ∧ j ≤ 10) ∧ i = .int .i64 j ∧ Below w.heap.size w wr) (fun i _ => n - (intOf i).toNat)
    case atStart => exact ⟨0, ⟨Nat.zero_le _, Nat.zero_le _⟩, rfl, BW1.out⟩
    case round =>
      obtain ⟨j, ⟨hj, hj10⟩, rfl, hbw⟩ := hrel
      have BW := Lib.hid hbw
      clear hbw
      have j0 : (0 : Int) ≤ (j : Int) := by omega
      by_cases hlt : j < n ∧ j < 10
      · obtain ⟨h1, h2⟩ := hlt
        have j1 : (j : Int) < (n : Int) := by omega
        have j2 : (j : Int) < 10 := by omega
        obtain ⟨pA, rfl, -, cA⟩ := (KL.out.later BW.out).at_ j (by rw [HN.out]; exact h1)
        obtain ⟨x, hx⟩ : ∃ x, x = l[j]'(by rw [HN.out]; exact h1) := ⟨_, rfl⟩
        have hsz : x.size ≤ 300 := by rw [hx]; exact HSN.out j (by rw [HN.out]; exact h1) h2
        have HX := Lib.hid hx
        rw [← hx] at cA
        clear hx
        obtain ⟨W1, c1, hcv, bW1, hc1, hbs1⟩ := conv_str wr x
        have HB1 := Lib.hid hbs1
        have BWa := Lib.hid bW1
        have HX1 := Lib.hid (show x.data.toList.length = x.size by simp)
        clear hbs1 bW1
        go_wp2_with fail
        go_at_call 10
        refine (frame_at RR.out (some ⟨wr.heap.size, 0, none⟩) x.data.toList x.size c1 _ _ HX1.out (by omega) (fun e => nomatch e) HB1.out (Nat.le_refl _)).mono ?_
        rintro e w2 ⟨⟨A2, c2, rfl, hA2, hc2, hr2⟩, hb2⟩
        have BWb := Lib.hid (below_then BWa.out hb2)
        have HR2 := Lib.hid hr2
        have cA2 : w2.cell? (pA.add j) = some (.string x) := by
          obtain ⟨pA', e', -, cA'⟩ := (KL.out.later (below_then BW.out BWb.out)).at_ j (by rw [HN.out]; exact h1)
          obtain rfl : pA = pA' := by injection e'
          rw [HX.out]; exact cA'
        clear hA2 hr2 hb2 cA hcv
        go_wp2_with fail
        go_at_call 11
        refine (frame_any x (by omega) _).mono ?_
        rintro e w3 ⟨rfl, hb3⟩
        have cv := convert_n c2 (x.size + 8) (by rw [Rec.fr_length, HX1.out]; omega) (HR2.out.later hb3)
        have BWc := Lib.hid (below_then BW.out (below_then BWb.out hb3))
        clear hb3
        go_wp2_with fail
        go_roundw
        case rel => exact ⟨j + 1, ⟨h1, h2⟩, by go_num, BWc.out⟩
        case measure => simp [intOf]; omega
      · have hcode : (n : Int) ≤ (j : Int) ∨ ((j : Int) < (n : Int) ∧ (10 : Int) ≤ (j : Int)) := by omega
        rcases hcode with n1 | ⟨n1, n3⟩
        all_goals
          go_wp2_with fail
          have HT : Hid (∀ W : World, Below wr.heap.size wr W → Below wr.heap.size wr W ∧ (convert 23 9 (.slice B m cb)).run Try.prog W = .ok (.string ⟨bs.toArray⟩) W) := fun W hW => ⟨hW, convert_n cb m HM.out (KB.out.later (below_then BW.out hW))⟩
          have HU : Hid (∀ W W' : World, (Below wr.heap.size wr W ∧ (convert 23 9 (.slice B m cb)).run Try.prog W = .ok (.string ⟨bs.toArray⟩) W) → Below W.heap.size W W' → (Below wr.heap.size wr W' ∧ (convert 23 9 (.slice B m cb)).run Try.prog W' = .ok (.string ⟨bs.toArray⟩) W')) := fun W W' h k => HT.out W' (below_then h.1 k)
          have HV : Hid (∀ (W : World) (o : Obj), (Below wr.heap.size wr W ∧ (convert 23 9 (.slice B m cb)).run Try.prog W = .ok (.string ⟨bs.toArray⟩) W) → (Below wr.heap.size wr (W.alloc o) ∧ (convert 23 9 (.slice B m cb)).run Try.prog (W.alloc o) = .ok (.string ⟨bs.toArray⟩) (W.alloc o))) := fun W o h => HT.out _ (h.1.alloc h.1.size o)
          have HE : Hid (∀ W : World, (Below wr.heap.size wr W ∧ (convert 23 9 (.slice B m cb)).run Try.prog W = .ok (.string ⟨bs.toArray⟩) W) → Below w.heap.size w W) := fun W h => below_then BW.out h.1
          have x4 : Hid (xs.size ≤ 4000) := by show xs.size ≤ 4000; have := HXS.out; omega
          have HBZ : Hid ((ByteArray.mk bs.toArray).size = m) := by show bs.toArray.size = m; rw [List.size_toArray]; exact HM.out
          have za : ¬ 9223372036854775807 < xs.size + m := by have := HXS.out; omega
          have zb : (ByteArray.mk bs.toArray).size = m := HBZ.out
          go_region_held3 (fun W => Below wr.heap.size wr W ∧ (convert 23 9 (.slice B m cb)).run Try.prog W = .ok (.string ⟨bs.toArray⟩) W) (first | exact HT.out _ (Below.refl _ _).drew | exact HU.out _ _ (by assumption) (by assumption) | exact HV.out _ _ (by assumption) | assumption) (first
            | (go_at_call 12; refine (mix_any xs x4.out C D ts ys k o cc cd HK.out HO.out _ (KT.out.later (HE.out _ (by assumption))) (KY.out.later (HE.out _ (by assumption)))).mono ?_; rintro e w' ⟨⟨zs, rfl, hz⟩, hb⟩))
          go_wp2_with fail
          obtain ⟨W0, hW0⟩ : ∃ W0, W0 = w'.alloc (.cells #[.string xs, .string ⟨bs.toArray⟩, .string zs, .string (xs ++ ⟨bs.toArray⟩)] 9) := ⟨_, rfl⟩
          obtain ⟨g, hg⟩ : ∃ g, w'.heap.size = g := ⟨_, rfl⟩
          obtain ⟨ZL, hZL⟩ : ∃ ZL, ZL = [xs, ByteArray.mk bs.toArray, zs, xs ++ ByteArray.mk bs.toArray] := ⟨_, rfl⟩
          have HRZ : Hid (Row W0 (some ⟨g, 0, none⟩) (ZL.map Value.string)) := by
            show Row W0 (some ⟨g, 0, none⟩) (ZL.map Value.string)
            rw [hW0, ← hg, hZL]
            exact row_new w' _ _ _ _ rfl
          have HZ4 : Hid (ZL.length = 4) := by show ZL.length = 4; rw [hZL]; rfl
          have HZS : Hid (∀ z ∈ ZL, z.size ≤ 8000) := by
            show ∀ z ∈ ZL, z.size ≤ 8000
            have h1 := HXS.out
            intro z hz4
            rw [hZL] at hz4
            simp only [List.mem_cons, List.not_mem_nil, or_false] at hz4
            rcases hz4 with rfl | rfl | rfl | rfl
            · omega
            · omega
            · omega
            · rw [ByteArray.size_append]; omega
          have BW0 : Hid (Below w.heap.size w W0) := by
            show Below w.heap.size w W0
            rw [hW0]
            exact HE.out _ (by assumption)
          rw [← hW0, hg]
          clear hW0 hg hZL hz hb
          go_loopw [84] (fun i wr2 => ∃ q : Nat, q ≤ 4 ∧ i = .int .i64 q ∧ Below W0.heap.size W0 wr2) (fun i _ => 4 - (intOf i).toNat)
          case atStart => exact ⟨0, Nat.zero_le _, rfl, Below.refl _ _⟩
          case round =>
            obtain ⟨q, hq, rfl, hb5⟩ := hrel
            have B5 := Lib.hid hb5
            clear hb5
            have q0 : (0 : Int) ≤ (q : Int) := by omega
            by_cases hq4 : q < 4
            · have q1 : (q : Int) < 4 := by omega
              obtain ⟨pZ, hpZ, hpz, cZ⟩ := (HRZ.out.later B5.out).at_ q (by rw [HZ4.out]; exact hq4)
              obtain rfl : ⟨g, 0, none⟩ = pZ := by injection hpZ
              obtain ⟨z, hz⟩ : ∃ z, z = ZL[q]'(by rw [HZ4.out]; exact hq4) := ⟨_, rfl⟩
              have hzs : z.size ≤ 8000 := by rw [hz]; exact HZS.out _ (List.getElem_mem _)
              rw [← hz] at cZ
              rw [Addr.add_lit, Nat.zero_add] at cZ
              clear hz hpZ hpz
              obtain ⟨W1, c1, hcv, bW1, hc1, hbs1⟩ := conv_str wr z
              obtain ⟨Z, hZ⟩ : ∃ Z, z.data.toList = Z := ⟨_, rfl⟩
              rw [hZ] at hbs1
              have hZl : Z.length = z.size := by rw [← hZ]; simp
              obtain ⟨P, hP⟩ : ∃ P, (Rec.scan Z).1.length = P := ⟨_, rfl⟩
              obtain ⟨E, hE⟩ : ∃ E, (Rec.scan Z).2 = E := ⟨_, rfl⟩
              obtain ⟨ls, hls⟩ : ∃ ls, (Rec.scan Z).1 = ls := ⟨_, rfl⟩
              have hsc : Rec.scan Z = (ls, E) := by rw [← hls, ← hE]
              have HSC := Lib.hid hsc
              have HPL : Hid (ls.length = P) := by show ls.length = P; rw [← hls, hP]
              have HZL := Lib.hid hZl
              have HZB : Hid (z.size ≤ 2097152) := by show z.size ≤ 2097152; omega
              have HZd := Lib.hid hZ
              have HB1 := Lib.hid hbs1
              have B6 := Lib.hid (below_then B5.out bW1)
              clear hsc hP hE hls hZl hZ hbs1 bW1
              go_wp2_with fail
              go_at_call 13
              refine (scan_at RR.out (some ⟨wr.heap.size, 0, none⟩) Z z.size c1 _ _ ls E P HSC.out HPL.out HZL.out HZB.out (fun e => nomatch e) hc1 HB1.out (Nat.le_refl _)).mono ?_
              rintro e w3 ⟨⟨A2, c2, rfl, hA2, hc2, hr2⟩, hb3⟩
              have HR2 := Lib.hid hr2
              have B7 := Lib.hid (below_then B6.out hb3)
              clear hA2 hr2 hb3 hcv
              go_wp2_with fail
              go_at_call 14
              refine (scan_any z HZB.out _).mono ?_
              rintro e w4 ⟨⟨A3, c3, n3, rfl, hn3, hc3, hr3⟩, hb4⟩
              rw [HZd.out, HSC.out] at hr3 hn3
              rw [HZd.out, HSC.out]
              obtain rfl : n3 = P := by rw [hn3]; exact HPL.out
              have HR3 := Lib.hid hr3
              have HB4 := Lib.hid hb4
              have B8 := Lib.hid (below_then B7.out hb4)
              clear hn3 hr3 hb4
              have hn12 : n3 ≤ 1000 := by
                have h1 := Rec.scan_small Z
                rw [HSC.out, HPL.out, HZL.out] at h1
                omega
              have P9 : (n3 : Int) ≤ 1000 := by omega
              go_wp2_with fail
              go_loopw [22] (fun i wr5 => ∃ r : Nat, r ≤ n3 ∧ i = .int .i64 r ∧ Below w4.heap.size w4 wr5) (fun i _ => n3 - (intOf i).toNat)
              case atStart => exact ⟨0, Nat.zero_le _, rfl, Below.refl _ _⟩
              case round =>
                obtain ⟨r, hr, rfl, hb9⟩ := hrel
                have B9 := Lib.hid hb9
                clear hb9
                have r0 : (0 : Int) ≤ (r : Int) := by omega
                by_cases hrP : r < n3
                · have r1 : (r : Int) < (n3 : Int) := by omega
                  have hrl : r < ls.length := by rw [HPL.out]; exact hrP
                  obtain ⟨pP, y, rfl, hpP, cP, A5, c5, rfl, hA5, hc5, hb5⟩ := HR2.out r hrl
                  obtain ⟨pQ, rfl, hpQ, cQ⟩ := HR3.out.at_ r hrl
                  obtain ⟨bd, hbd⟩ : ∃ bd, ls[r] = bd := ⟨_, rfl⟩
                  rw [hbd] at cP cQ hb5
                  have HBY := Lib.hid hb5
                  have HT9 : Hid (∀ W : World, Below w4.heap.size w4 W → W.cell? (pP.add r) = some (.slice A5 bd.length c5) ∧ W.cell? (pQ.add r) = some (.string ⟨bd.toArray⟩) ∧ (convert 23 9 (.slice A5 bd.length c5)).run Try.prog W = .ok (.string ⟨bd.toArray⟩) W) := fun W hW => by
                    refine ⟨?_, ?_, ?_⟩
                    · rw [(below_then HB4.out hW).cell (by rw [add_block]; exact hpP)]; exact cP
                    · rw [hW.cell (by rw [add_block]; exact hpQ)]; exact cQ
                    · exact convert_n c5 bd.length rfl (HBY.out.later (below_then HB4.out hW))
                  have HT2 := Lib.hid (HT9.out _ B9.out)
                  clear cP hpP cQ hpQ hb5 hbd hA5 hc5
                  go_wp2_with fail
                  go_region_held3 (fun W => W.cell? (pP.add r) = some (.slice A5 bd.length c5) ∧ W.cell? (pQ.add r) = some (.string ⟨bd.toArray⟩) ∧ (convert 23 9 (.slice A5 bd.length c5)).run Try.prog W = .ok (.string ⟨bd.toArray⟩) W) (first | exact HT9.out _ B9.out.drew | assumption) (fail)
                  go_wp2_with fail
                  go_roundw
                  case rel => exact ⟨r + 1, hrP, by go_num, B9.out.drew⟩
                  case measure => simp [intOf]; omega
                · have r1 : (n3 : Int) ≤ (r : Int) := by omega
                  go_wp2_with fail
                  go_roundw
                  case rel => exact ⟨q + 1, hq4, by go_num, below_then B8.out B9.out⟩
                  case measure => simp [intOf]; omega
            · have q1 : (4 : Int) ≤ (q : Int) := by omega
              go_wp2_with fail
              go_at_call 9
              refine (told_any RR.out _).mono ?_
              rintro e w6 ⟨rfl, h6⟩
              go_wp2_with fail
              go_ret
              exact ⟨rfl, below_then BW0.out (below_then B5.out h6)⟩
  · have hgo2 : ok = false ∨ (ok = true ∧ 600 < m) := by
      cases ok
      · exact .inl rfl
      · exact .inr ⟨rfl, by
          rcases Nat.lt_or_ge 600 m with h | h
          · exact h
          · exact absurd ⟨rfl, h⟩ hgo⟩
    clear hgo HSM
    rcases hgo2 with rfl | ⟨rfl, hm6⟩
    · go_wp2_with fail
      go_at_call 9
      refine (told_any RR.out _).mono ?_
      rintro e w6 ⟨rfl, h6⟩
      go_wp2_with fail
      go_ret
      exact ⟨rfl, below_then BW1.out h6⟩
    · have m1 : 600 < (m : Int) := by omega
      go_wp2_with fail
      go_at_call 9
      refine (told_any RR.out _).mono ?_
      rintro e w6 ⟨rfl, h6⟩
      go_wp2_with fail
      go_ret
      exact ⟨rfl, below_then BW1.out h6⟩
end Go.Proofs.Ytmikdnjjnadimaa
