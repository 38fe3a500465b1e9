/- The walk of the law RecordCuts, out of what is asked of package record. -/
import Derived.Test.YtmikdnjjnadimaaRecTx
import Derived.Test.YtmikdnjjnadimaaOwnInts
import Derived.Test.YtmikdnjjnadimaaConv
import Derived.Deep.RegionHeld3
namespace Go.Proofs.Ytmikdnjjnadimaa
open Go.RowKit
set_option linter.unusedVariables false
/-- Where the i-th frame ends. -/
def en (l : List ByteArray) (i : Nat) : Nat := (Rec.frs (tx l (i + 1))).length
def ens (l : List ByteArray) (j : Nat) : List Value := (List.range j).map fun i => .int .i64 (en l i : Int)
theorem ens_snoc (l : List ByteArray) (j : Nat) : ens l (j + 1) = ens l j ++ [.int .i64 (en l j : Int)] := by
  unfold ens; rw [List.range_succ, List.map_append]; rfl
def CInv (w : World) (l : List ByteArray) (vs ve i : Value) (wr : World) : Prop :=
  ∃ (j : Nat) (xs : ByteArray), (CAt l j xs.data.toList ∧ j ≤ 10) ∧ vs = .string xs ∧ wr.ownsRow w.heap.size 3 1 ve j (ens l j) ∧ i = .int .i64 j ∧ Below w.heap.size w wr
set_option maxRecDepth 20000 in
set_option maxHeartbeats 4000000 in
theorem cuts_walk (R : RecOk) (A : Option Addr) (l : List ByteArray) (n ca : Nat) (hn : l.length = n) (t : Int) (hA : A = none → ca = 0) (w : World) (hl : Row w A (l.map Value.string)) :
    Calls Try.prog 4 #[.slice A n ca, .int .i64 t] w fun e w' => e = .returned (.bool true) ∧ Below w.heap.size w w' := by
  have RR := Lib.hid R
  have HA := Lib.hid hA
  have KL := Lib.hid hl
  have HN := Lib.hid hn
  clear R hA hl hn
  go_enter Try.func4, Try.ntmps4
  go_wp2_with fail
  go_loopw [5, 6, 7] (fun vs ve i wr => CInv w l vs ve i wr) (fun _ _ i _ => n - (intOf i).toNat)
  case atStart => exact ⟨0, ⟨#[]⟩, ⟨⟨Nat.zero_le _, by simp [tx], rfl, Nat.le_refl _⟩, Nat.zero_le _⟩, rfl, World.ownsRow_nil _ _ _ _, rfl, Below.refl _ _⟩
  case round =>
    obtain ⟨j, xs, ⟨hk, hj10⟩, rfl, hown, rfl, hbw⟩ := hrel
    have HJ10 := Lib.hid hj10
    have HK := Lib.hid hk
    have OW := Lib.hid hown
    have BW := Lib.hid hbw
    have hls : xs.size = xs.data.toList.length := by simp
    have HLS : Hid (xs.size ≤ 3080) := by show xs.size ≤ 3080; rw [hls]; have := hk.s2; omega
    clear hk hown hbw hls hj10
    by_cases hlt : j < n ∧ j < 10
    · obtain ⟨h1, h2⟩ := hlt
      have j0 : (0 : Int) ≤ (j : Int) := by omega
      have j1 : (j : Int) < (n : Int) := by omega
      have j2 : (j : Int) < 10 := by omega
      obtain ⟨pA, rfl, -, cA⟩ := (KL.out.later BW.out).at_ j (by rw [HN.out]; exact h1)
      obtain ⟨x, hx⟩ : ∃ x, x = l[j]'(by rw [HN.out]; exact h1) := ⟨_, rfl⟩
      have HX := Lib.hid hx
      rw [← hx] at cA
      clear hx
      by_cases hsz : x.size ≤ 300
      · have z1 : (x.size : Int) ≤ 300 := by omega
        obtain ⟨W1, c1, hcv, bW1, hc1, hbs1⟩ := conv_str wr x
        have HB1 := Lib.hid hbs1
        have BW1 := Lib.hid bW1
        have HX1 := Lib.hid (show x.data.toList.length = x.size by simp)
        clear hbs1 bW1
        go_wp2_with fail
        go_at_call 10
        refine (frame_at RR.out (some ⟨wr.heap.size, 0, none⟩) x.data.toList x.size c1 _ _ HX1.out (by omega) (fun e => nomatch e) HB1.out (Nat.le_refl _)).mono ?_
        rintro e w2 ⟨⟨A2, c2, rfl, hA2, hc2, hr2⟩, hb2⟩
        have HB2 := Lib.hid (below_then BW1.out hb2)
        have cA2 : w2.cell? (pA.add j) = some (.string x) := by
          obtain ⟨pA', e', -, cA'⟩ := (KL.out.later (below_then BW.out HB2.out)).at_ j (by rw [HN.out]; exact h1)
          obtain rfl : pA = pA' := by injection e'
          rw [HX.out]; exact cA'
        have cv := convert_n c2 (x.size + 8) (by rw [Rec.fr_length, HX1.out]; omega) hr2
        have za : ¬ 9223372036854775807 < xs.size + (x.size + 8) := by have := HLS.out; omega
        have OW2 := Lib.hid (own_keep OW.out HB2.out)
        have BW2 := Lib.hid (below_then BW.out HB2.out)
        have hfs : (ByteArray.mk (Rec.fr x.data.toList).toArray).size = x.size + 8 := by
          show (Rec.fr x.data.toList).toArray.size = _
          rw [List.size_toArray, Rec.fr_length, HX1.out]; omega
        clear hA2 hr2 hb2 cA hcv
        go_wp2_with (at_builtin; refine wpList_append_int rfl (.tmp 60) (.tmp 63) rfl w _ j _ rfl (own_keep OW2.out ((Below.refl _ _).alloc (Nat.le_refl _) _)) (BW2.out.alloc BW2.out.size _) ⟨w2.heap.size, 0, none⟩ _ _ rfl (cell_new _ _ _) (by omega) ?_; intro v3 w3 own3 bw3)
        have eX : (xs ++ ByteArray.mk (Rec.fr x.data.toList).toArray).data.toList = xs.data.toList ++ Rec.fr x.data.toList := by simp
        have hnx := HK.out.next (by rw [HN.out]; exact h1) (by rw [← HX.out]; exact hsz)
        rw [← HX.out, ← eX] at hnx
        have hY : (en l j : Int) = (xs.size : Int) + ((x.size : Int) + 8) := by
          have e : en l j = (xs.data.toList ++ Rec.fr x.data.toList).length := by
            unfold en
            rw [← eX]
            exact (congrArg List.length hnx.s1).symm
          rw [e, List.length_append, Rec.fr_length, HX1.out]
          simp
          omega
        refine ⟨⟨j + 1, _, ⟨hnx, h2⟩, rfl, ?_, by go_num, bw3⟩, by simp [intOf]; omega⟩
        rw [ens_snoc, hY]
        exact own3
      · have z1 : 300 < (x.size : Int) := by omega
        go_wp2_with fail
        go_at_call 9
        refine (told_any RR.out wr).mono ?_
        rintro e w2 ⟨rfl, h2⟩
        go_wp2_with fail
        go_ret
        exact ⟨rfl, below_then BW.out h2⟩
    · have hjn := HN.out
      have hcode : (n : Int) ≤ (j : Int) ∨ ((j : Int) < (n : Int) ∧ (10 : Int) ≤ (j : Int)) := by
        have := HK.out.j1
        omega
      have j0 : (0 : Int) ≤ (j : Int) := by omega
      obtain ⟨k, hk, hkm⟩ := mod_len t xs.size (by have := HLS.out; omega)
      have k0 : (0 : Int) ≤ (k : Int) := by omega
      have k1 : (k : Int) ≤ (xs.size : Int) := by omega
      have k2 : (xs.size : Int) ≤ 3080 := by have := HLS.out; omega
      have hex : (ByteArray.extract xs 0 k).size = k := by rw [ByteArray.size_extract]; omega
      have hed : (ByteArray.extract xs 0 k).data.toList = (Rec.frs (tx l j)).take k := by
        rw [ByteArray.data_extract, ← HK.out.s1]
        simp
      obtain ⟨W1, c1, hcv, bW1, hc1, hbs1⟩ := conv_str wr (ByteArray.extract xs 0 k)
      rw [hex] at hcv hc1
      rw [hed] at hbs1
      have HB1 := Lib.hid hbs1
      have BW1 := Lib.hid (below_then BW.out bW1)
      have BW1' := Lib.hid bW1
      obtain ⟨m, hm⟩ : ∃ m, Rec.whole (tx l j) k = m := ⟨_, rfl⟩
      have hmj : m ≤ j := by
        rw [← hm]
        have := Rec.whole_le (tx l j) k
        rwa [tx_length HK.out.j1] at this
      have HMJ := Lib.hid hmj
      have HWI : Hid (∀ i, i < j → (en l i ≤ k ↔ i < m)) := fun i hi => by
        have := Rec.whole_iff (tx l j) k i (by rw [tx_length HK.out.j1]; exact hi)
        rwa [hm, tx_take l (i + 1) j hi] at this
      have hsc := Rec.scan_cut (tx l j) k (fun x hx => Nat.le_trans (HK.out.sm x hx) (by decide))
      rw [hm, tx_take l m j hmj] at hsc
      have HSC := Lib.hid hsc
      have HML : Hid ((tx l m).length = m) := tx_length (Nat.le_trans hmj HK.out.j1)
      have HKL : Hid (((Rec.frs (tx l j)).take k).length = k) := by
        show ((Rec.frs (tx l j)).take k).length = k
        rw [← hed]
        simpa using hex
      obtain ⟨E, hE⟩ : ∃ E, (Rec.frs (tx l m)).length = E := ⟨_, rfl⟩
      have HE := Lib.hid hE
      rw [hE] at hsc
      have HSC2 := Lib.hid hsc
      clear hmj hsc hm hbs1 hex hed hE bW1
      obtain ⟨AE, cE, rfl, hEl, hEA, hEc, hrowE⟩ := own_row OW.out
      have HRE := Lib.hid hrowE
      clear hEl hEA hrowE OW
      rcases hcode with n1 | ⟨n1, n3⟩
      all_goals
        go_wp2_with fail
        go_at_call 13
        refine (scan_at RR.out (some ⟨wr.heap.size, 0, none⟩) _ k c1 _ _ (tx l m) E m HSC2.out HML.out HKL.out (by omega) (fun e => nomatch e) hc1 HB1.out (Nat.le_refl _)).mono ?_
        rintro e w2 ⟨⟨A2, c2, rfl, hA2, hc2, hr2⟩, hb2⟩
        have HR2 := Lib.hid hr2
        have BW2 := Lib.hid (below_then BW1.out hb2)
        have HB2 := Lib.hid hb2
        clear hA2 hr2 hb2 hcv
        go_wp2_with fail
        go_loopw [13, 14, 15] (fun a b i wr2 => ∃ q u v : Nat, q ≤ j ∧ u = min q m ∧ v = (Rec.frs (tx l u)).length ∧ i = .int .i64 q ∧ a = .int .i64 u ∧ b = .int .i64 v ∧ Below w2.heap.size w2 wr2) (fun _ _ i _ => j - (intOf i).toNat)
        case atStart => exact ⟨0, 0, 0, Nat.zero_le _, (Nat.zero_min _).symm, rfl, rfl, rfl, rfl, Below.refl _ _⟩
        case round =>
          obtain ⟨q, u, v, hq, hu, hv, rfl, rfl, rfl, hb3⟩ := hrel
          have HU := Lib.hid hu
          have HV := Lib.hid hv
          have BW3 := Lib.hid (below_then BW2.out hb3)
          have HB3 := Lib.hid hb3
          clear hu hv hb3
          have q0 : (0 : Int) ≤ (q : Int) := by omega
          have q9 : (q : Int) ≤ 10 := by have := HJ10.out; omega
          have HWQ : Hid (IntKind.i64.wrap ((q : Int) + 1) = ((q + 1 : Nat) : Int)) := by
            show IntKind.i64.wrap ((q : Int) + 1) = ((q + 1 : Nat) : Int)
            simp [IntKind.wrap, IntKind.bits, IntKind.signed]; omega
          by_cases hlt : q < j
          · have q1 : (q : Int) < (j : Int) := by omega
            obtain ⟨pE, rfl, hpE, cE1⟩ := (HRE.out.later (below_then (below_then BW1'.out HB2.out) HB3.out)).at_ q (by rw [List.length_range]; exact hlt)
            rw [List.getElem_range] at cE1
            by_cases hqm : q < m
            · have q2 : (en l q : Int) ≤ (k : Int) := by have := (HWI.out q hlt).2 hqm; omega
              have HQ : Hid (q + 1 ≤ j ∧ q + 1 = min (q + 1) m ∧ j - (q + 1) < j - q) := by constructor; exact hlt; omega
              go_wp2_with fail
              go_region_held3 (fun w' => w'.cell? (pE.add q) = some (.int .i64 (en l q : Int))) (go_keep) (fail)
              go_wp2_with fail
              go_roundw
              case rel => exact ⟨q + 1, q + 1, en l q, HQ.out.1, HQ.out.2.1, rfl, by go_num, congrArg (Value.int .i64) HWQ.out, rfl, HB3.out.drew⟩
              case measure => have := HQ.out.2.2; simp [intOf]; omega
            · have q2 : (k : Int) < (en l q : Int) := by
                have h : ¬ en l q ≤ k := fun x => hqm ((HWI.out q hlt).1 x)
                omega
              have HQ : Hid (q + 1 ≤ j ∧ u = min (q + 1) m ∧ j - (q + 1) < j - q) := by
                have := HU.out
                constructor; exact hlt; omega
              go_wp2_with fail
              go_roundw
              case rel => exact ⟨q + 1, u, v, HQ.out.1, HQ.out.2.1, HV.out, by go_num, rfl, rfl, HB3.out⟩
              case measure => have := HQ.out.2.2; simp [intOf]; omega
          · have q1 : (j : Int) ≤ (q : Int) := by omega
            obtain rfl : u = m := by have := HU.out; have := HMJ.out; omega
            obtain rfl : v = E := by rw [HV.out, HE.out]
            go_wp2_with fail
            have BW4 := Lib.hid (below_then BW2.out HB3.out)
            have u9 : (u : Int) ≤ 10 := by have := HJ10.out; have := HMJ.out; omega
            go_loopw [16] (fun i wr3 => ∃ r : Nat, r ≤ u ∧ i = .int .i64 r ∧ Below w2.heap.size w2 wr3) (fun i _ => u - (intOf i).toNat)
            case atStart => exact ⟨0, Nat.zero_le _, rfl, HB3.out⟩
            case round =>
              obtain ⟨r, hr, rfl, hb5⟩ := hrel
              have HB5 := Lib.hid hb5
              clear hb5
              have r0 : (0 : Int) ≤ (r : Int) := by omega
              have r9 : (r : Int) ≤ 10 := by omega
              by_cases hlt2 : r < u
              · have r1 : (r : Int) < (u : Int) := by omega
                have hrl : r < (tx l u).length := by rw [HML.out]; exact hlt2
                obtain ⟨pP, y, rfl, hpP, cP, A3, c3, rfl, hA3, hc3, hb3⟩ := HR2.out r hrl
                obtain ⟨hrn, hat⟩ := tx_at hrl
                have hyl : l[r].data.toList.length = l[r].size := by simp
                have HBY := Lib.hid hb3
                rw [hat] at HBY cP
                obtain ⟨x, hx⟩ : ∃ x, x = l[r] := ⟨_, rfl⟩
                rw [← hx] at HBY cP hyl
                obtain ⟨pA, rfl, hpA, cA⟩ := (KL.out.later BW2.out).at_ r hrn
                rw [← hx] at cA
                have HX := Lib.hid hx
                have r4 : (r : Int) < (n : Int) := by have := HN.out; omega
                rw [hyl] at cP
                have HYL := Lib.hid hyl
                clear hyl hb3 hx hat hA3 hc3
                have HT : Hid (∀ W : World, Below w2.heap.size w2 W → W.cell? (pP.add r) = some (.slice A3 x.size c3) ∧ W.cell? (pA.add r) = some (.string x) ∧ (convert 23 9 (.slice A3 x.size c3)).run Try.prog W = .ok (.string x) W) := fun W hW => by
                  refine ⟨?_, ?_, ?_⟩
                  · rw [hW.cell (by rw [add_block]; exact hpP)]; exact cP
                  · rw [hW.cell (by rw [add_block]; exact hpA)]; exact cA
                  · exact convert_n c3 x.size HYL.out (HBY.out.later hW)
                have HT2 := Lib.hid (HT.out _ HB5.out)
                clear cP hpP cA hpA
                go_wp2_with fail
                go_region_held3 (fun W => W.cell? (pP.add r) = some (.slice A3 x.size c3) ∧ W.cell? (pA.add r) = some (.string x) ∧ (convert 23 9 (.slice A3 x.size c3)).run Try.prog W = .ok (.string x) W) (first | exact HT.out _ HB5.out.drew | assumption) (fail)
                go_wp2_with fail
                go_roundw
                case rel => exact ⟨r + 1, hlt2, by go_num, HB5.out.drew⟩
                case measure => simp [intOf]; omega
              · have r1 : (u : Int) ≤ (r : Int) := by omega
                go_wp2_with fail
                go_at_call 9
                refine (told_any RR.out _).mono ?_
                rintro e w6 ⟨rfl, h6⟩
                go_wp2_with fail
                go_ret
                exact ⟨rfl, below_then BW2.out (below_then HB5.out h6)⟩
end Go.Proofs.Ytmikdnjjnadimaa
