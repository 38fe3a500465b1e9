/- Package record's Frame keeps what the laws ask of it: the document's frame, and none for a body that is too great. -/
import Derived.Test.YtmikdnjjnadimaaRecA
namespace Go.Proofs.Ytmikdnjjnadimaa
open Go.RowKit
set_option linter.unusedVariables false
theorem made_cap (n : Nat) (w : World) (hn : n ≤ 4194304) : ∃ Z : Array Value, Z.size = n ∧ (Instr.makeSlice 23 (.int .i64 0) (.int .i64 (n : Int))).run Try.prog w = .ok (.slice (some ⟨w.heap.size, 0, none⟩) 0 n) (w.alloc (.cells Z 5)) := by
  obtain ⟨i, hi, hz, h1, h2⟩ := info_parts info8
  have h := run_make (P := Try.prog) w 23 5 i _ Try.underlying23 hi hz .i64 .i64 0 (n : Int) (by omega) (by omega) (by rw [h2]; omega) (by omega)
  have t : ((n : Int)).toNat = n := by omega
  rw [t] at h
  refine ⟨madeCells (Value.int .u8 0).cells (n * i.size), by simp [madeCells, h1], h⟩
theorem own_cap (w : World) (Z : Array Value) (n : Nat) (hZ : Z.size = n) (hn : n ≤ 4194304) : (w.alloc (.cells Z 5)).ownsRow w.heap.size 5 1 (.slice (some ⟨w.heap.size, 0, none⟩) 0 n) ([] : List UInt8).length (([] : List UInt8).map bv) :=
  ⟨rfl, .inr ⟨w.heap.size, n, Z, rfl, Nat.le_refl _, heap_alloc_new _ _, Nat.zero_le _, by unfold maxLen; omega, by rw [hZ, Nat.mul_one], by simp⟩⟩
theorem frame_eq (b : List UInt8) (n m : Nat) (hn : b.length = n) (hm : Rec.sum (Rec.be4 n) b = m) : Rec.be4 n ++ Rec.be4 m ++ b = Rec.fr b := by
  subst hn hm
  rfl
set_option maxRecDepth 20000 in
set_option maxHeartbeats 1000000 in
theorem recframe (A : Option Addr) (b : List UInt8) (c B n : Nat) (w : World) (hn : b.length = n) (h1 : n ≤ 1048576) (hA : A = none → c = 0) (h : Bs w B A b) (hB : B ≤ w.heap.size) (UP : UpOk) (SM : SumOk) :
    Calls Try.prog 10 #[.slice A n c] w fun e w' => (∃ v, e = .returned (.tuple #[v, .int .i64 0]) ∧ IsBytes w' v (Rec.fr b)) ∧ Below w.heap.size w w' := by
  have i1 : (n : Int) ≤ 1048576 := by omega
  have i0 : (0 : Int) ≤ (n : Int) := by omega
  obtain ⟨Z, hZ, hmk⟩ := made_cap (8 + n) w (by omega)
  rw [show (((8 + n : Nat)) : Int) = 8 + (n : Int) by omega] at hmk
  have OW0 := Lib.hid (own_cap w Z (8 + n) hZ (by omega))
  have BW0 := Lib.hid ((Below.refl w.heap.size w).alloc (Nat.le_refl _) (.cells Z 5 (0, 0)))
  have hn4 : n < 4294967296 := by omega
  obtain ⟨m, hm⟩ : ∃ m, Rec.sum (Rec.be4 n) b = m := ⟨_, rfl⟩
  have hm4 : m < 4294967296 := by rw [← hm]; exact Rec.sum_lt _ _
  have HE := Lib.hid (frame_eq b n m hn hm)
  have HM := Lib.hid hm
  have HB := Lib.hid (h.up hB)
  have UU := Lib.hid UP
  have SS := Lib.hid SM
  have HN := Lib.hid hn
  have HAA := Lib.hid hA
  have HL1 := Lib.hid h1
  have HN4 := Lib.hid hn4
  have HM4 := Lib.hid hm4
  clear hZ hm h UP SM hn hA hn4 hm4 h1
  go_enter Try.func10, Try.ntmps10
  go_wp2_with fail
  go_at_call 15
  refine (appnum_any w _ _ [] n HN4.out OW0.out BW0.out (by simp)).mono ?_
  rintro e w1 ⟨v1, rfl, own1, bw1⟩
  rw [List.nil_append] at own1
  have k1 := own1
  obtain ⟨A1, c1, rfl, -, -, hb1⟩ := Bs.of_own k1
  have OW1 := Lib.hid own1
  have BW1 := Lib.hid bw1
  have HB1 := Lib.hid hb1
  rw [Rec.be4_length]
  clear own1 bw1 k1 hb1
  go_wp2_with fail
  go_at_call 16
  refine (checksum_any A1 A (Rec.be4 n) b 4 n c1 c _ w1 UU.out SS.out (Rec.be4_length n) HN.out (by omega) HL1.out HB1.out (HB.out.later BW1.out) (Nat.le_refl _)).mono ?_
  rintro e w2 ⟨rfl, bw2⟩
  rw [HM.out]
  have OW2 := Lib.hid (own_keep OW1.out bw2)
  have BW2 := Lib.hid (below_then BW1.out bw2)
  rw [Rec.be4_length] at OW2
  clear OW1 HB1 bw2
  go_wp2_with fail
  go_at_call 15
  refine (appnum_any w _ _ (Rec.be4 n) m HM4.out (by rw [Rec.be4_length]; exact OW2.out) BW2.out (by rw [Rec.be4_length]; omega)).mono ?_
  rintro e w3 ⟨v3, rfl, own3, bw3⟩
  have OW3 := Lib.hid own3
  have BW3 := Lib.hid bw3
  have HS : Hid ((Rec.be4 n ++ Rec.be4 m).length + b.length ≤ 140737488355328) := by
    show (Rec.be4 n ++ Rec.be4 m).length + b.length ≤ 140737488355328
    have := HL1.out; have := HN.out
    rw [List.length_append, Rec.be4_length, Rec.be4_length]; omega
  clear own3 bw3
  go_wp2_with (at_builtin; refine wpList_append_own_bytes rfl (.tmp 22) (.tmp 23) rfl w _ (Rec.be4 n ++ Rec.be4 m) rfl OW3.out BW3.out A c b (by rw [HN.out]; rfl) HAA.out HB.out HS.out ?_; intro v4 w4 own4 bw4)
  rw [HE.out] at own4
  have k4 := own4
  obtain ⟨A4, c4, rfl, -, e4, hb4⟩ := Bs.of_own k4
  obtain ⟨A5, c5, e5, -, -, h5, -⟩ := own_row own4
  cases e5
  go_wp2_with fail
  go_ret2
  exact ⟨⟨_, rfl, A4, c4, rfl, e4, h5, hb4⟩, bw4⟩
theorem recgreat (A : Option Addr) (b : List UInt8) (c B n : Nat) (w : World) (hn : b.length = n) (h1 : 1048576 < n) (h2 : n ≤ 2097152) :
    Calls Try.prog 10 #[.slice A n c] w fun e w' => (∃ v, e = .returned (.tuple #[v, .int .i64 8]) ∧ IsBytes w' v []) ∧ Below w.heap.size w w' := by
  have i1 : (1048576 : Int) < (n : Int) := by omega
  go_enter Try.func10, Try.ntmps10
  go_wp2_with fail
  go_ret2
  exact ⟨⟨_, rfl, none, 0, rfl, fun _ => rfl, Nat.le_refl _, Bs.empty⟩, Below.refl _ _⟩
end Go.Proofs.Ytmikdnjjnadimaa
