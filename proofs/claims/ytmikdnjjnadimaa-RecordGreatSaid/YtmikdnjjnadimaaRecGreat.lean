/- The walk of the law RecordGreat, out of what is asked of package record. -/
import Derived.Test.YtmikdnjjnadimaaRecI
import Derived.Deep.RegionHeld3
namespace Go.Proofs.Ytmikdnjjnadimaa
open Go.RowKit
set_option linter.unusedVariables false
theorem mod3 (t : Int) : ∃ n : Nat, n ≤ 2 ∧ wrap64 ((IntKind.u64.wrap t).tmod 3) = (n : Int) := by
  have h : 0 ≤ IntKind.u64.wrap t := by rw [IntKind.wrap_u64]; omega
  rw [Int.tmod_eq_emod_of_nonneg h]
  exact ⟨(IntKind.u64.wrap t % 3).toNat, by omega, by unfold wrap64; omega⟩
set_option maxHeartbeats 2000000 in
theorem great_walk (R : RecOk) (x : UInt8) (t : Int) (m J K : Nat) (hm : m ≤ 2) (hJ : J = 1048576 + m) (hK : K = 1048575 + m) (ht : wrap64 ((IntKind.u64.wrap t).tmod 3) = (m : Int)) (w : World) :
    Calls Try.prog 6 #[.int .u8 (x.toNat : Int), .int .i64 t] w fun e w' => e = .returned (.bool true) ∧ Below w.heap.size w w' := by
  have RR := Lib.hid R
  clear R
  have e1 : IntKind.i64.wrap (1048576 + (m : Int)) = (J : Int) := by simp [IntKind.wrap, IntKind.bits, IntKind.signed]; omega
  have e2 : IntKind.i64.wrap ((J : Int) - 1) = (K : Int) := by simp [IntKind.wrap, IntKind.bits, IntKind.signed]; omega
  have k0 : (0 : Int) ≤ (K : Int) := by omega
  have hmk := made_bytes K w (by omega)
  have HK := Lib.hid (show K ≤ 1048577 ∧ 1048575 ≤ K by omega)
  clear hJ hK hm
  go_enter Try.func6, Try.ntmps6
  go_wp2_with fail
  clear hmk
  go_loopw [7] (fun i wr => ∃ (j : Nat) (ds : List UInt8), j ≤ K + 4096 ∧ i = .int .i64 j ∧ ds.length = K ∧ Whole wr w.heap.size ds ∧ Below w.heap.size w wr) (fun i _ => K + 4096 - (intOf i).toNat)
  case atStart => exact ⟨0, List.replicate K 0, by omega, rfl, List.length_replicate .., Whole.new w _ _ (by simp), (Below.refl _ w).alloc (Nat.le_refl _) _⟩
  case round =>
    obtain ⟨j, ds, hj, rfl, hl, hwh, hbw⟩ := hrel
    have HL := Lib.hid hl
    have HW := Lib.hid hwh
    have BW := Lib.hid hbw
    have hkk := HK.out
    clear hl hwh hbw
    have j0 : (0 : Int) ≤ (j : Int) := by omega
    by_cases hlt : j < K
    · have j1 : (j : Int) < (K : Int) := by omega
      have xc := HW.out.cell j (by rw [HL.out]; exact hlt)
      have xf := HW.out.free j
      go_wp2_with fail
      go_roundw
      case rel => exact ⟨j + 4096, ds.set j x, by omega, by go_num, by rw [List.length_set]; exact HL.out, HW.out.put j x, BW.out.setCell (Nat.le_refl _) _⟩
      case measure => simp [intOf]; omega
    · have j1 : (K : Int) ≤ (j : Int) := by omega
      have HWr := Lib.hid HW.out.reads
      by_cases hg : K ≤ 1048576
      · have g1 : (K : Int) ≤ 1048576 := by omega
        have e3 : IntKind.i64.wrap ((K : Int) + 8) = (K : Int) + 8 := by simp [IntKind.wrap, IntKind.bits, IntKind.signed]; omega
        have hs : Hid (Rec.scan (Rec.fr ds) = ([ds], K + 8)) := by
          show Rec.scan (Rec.fr ds) = ([ds], K + 8)
          have h := Rec.scan_fr ds [] (by rw [HL.out]; exact hg)
          rw [List.append_nil, Rec.scan_nil, HL.out] at h
          rw [h]
          simp
          omega
        have hfl : Hid ((Rec.fr ds).length = K + 8) := by
          show (Rec.fr ds).length = K + 8
          rw [Rec.fr_length, HL.out]; omega
        have h2m : Hid (K + 8 ≤ 2097152) := by show K + 8 ≤ 2097152; omega
        go_wp2_with fail
        go_at_call 10
        refine (frame_at RR.out (some ⟨w.heap.size, 0, none⟩) ds K K _ _ HL.out hg (fun e => nomatch e) HWr.out (Nat.le_refl _)).mono ?_
        rintro e w1 ⟨⟨A1, c1, rfl, hA1, hc1, hr1⟩, hb1⟩
        have HA1 := Lib.hid hA1
        have HR1 := Lib.hid hr1
        clear hA1 hr1
        go_wp2_with fail
        go_at_call 13
        refine (scan_at RR.out A1 (Rec.fr ds) _ c1 _ _ [ds] _ 1 hs.out rfl hfl.out h2m.out HA1.out hc1 HR1.out (Nat.le_refl _)).mono ?_
        rintro e w2 ⟨⟨A2, c2, rfl, hA2, hc2, -⟩, hb2⟩
        go_wp2_with (go_at_call 9; refine (told_any RR.out _).mono ?_; rintro e w' ⟨rfl, hb⟩)
        go_ret
        exact ⟨rfl, below_then BW.out (below_then (below_then hb1 hb2) hb)⟩
      · have g1 : 1048576 < (K : Int) := by omega
        go_wp2_with fail
        go_at_call 10
        refine (great_at RR.out (some ⟨w.heap.size, 0, none⟩) ds K K _ _ HL.out (by omega) (by omega) HWr.out (Nat.le_refl _)).mono ?_
        rintro e w1 ⟨⟨A1, c1, rfl⟩, hb1⟩
        go_wp2_with (go_at_call 9; refine (told_any RR.out _).mono ?_; rintro e w' ⟨rfl, hb⟩)
        go_ret
        exact ⟨rfl, below_then BW.out (below_then hb1 hb)⟩
end Go.Proofs.Ytmikdnjjnadimaa
