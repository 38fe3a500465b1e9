/- The contract of the document's own frame (scriptoriumref3.Frame). -/
import Derived.Test.YtmikdnjjnadimaaRefRec
namespace Go.Proofs.Ytmikdnjjnadimaa
open Go.RowKit
set_option linter.unusedVariables false
theorem bytes_eq {a b : ByteArray} (h : a.data.toList = b.data.toList) : a = b := by
  cases a; cases b
  congr
  exact Array.toList_inj.1 h
theorem refcrc_at (A : Option Addr) (l : List UInt8) (n cap B : Nat) (w : World) (hn : l.length = n) (hl : n ≤ maxLen) (h : Bs w B A l) :
    Calls Try.prog 18 #[.int .u32 0, .slice A n cap] w fun e w' => e = .returned (.int .u32 ((Crc.crc 0#32 l).toNat : Int)) ∧ w = w' := by
  subst hn
  exact refcrc_any 0#32 A l cap B w hl h
set_option maxHeartbeats 2000000 in
theorem frame_any (x : ByteArray) (h : x.size ≤ 1048576) (w : World) :
    Calls Try.prog 11 #[.string x] w fun e w' => e = .returned (.tuple #[.string ⟨(Rec.fr x.data.toList).toArray⟩, .int .i64 0]) ∧ Below w.heap.size w w' := by
  have h1 : (x.size : Int) ≤ 1048576 := by omega
  have h0 : (0 : Int) ≤ (x.size : Int) := by omega
  have hxl : x.data.toList.length = x.size := by simp
  obtain ⟨n4, hn4⟩ : ∃ n4 : ByteArray, n4 = ⟨(Rec.be4 x.size).toArray⟩ := ⟨_, rfl⟩
  have HN4 := Lib.hid hn4
  have z4 : n4.size = 4 := by rw [hn4]; rfl
  have HX := Lib.hid hxl
  go_enter Try.func11, Try.ntmps11
  go_wp2_with fail
  go_at_call 17
  refine (four_any x.size (by omega) _).mono ?_
  rintro e w1 ⟨rfl, hb1⟩
  rw [← HN4.out]
  have HB1 := Lib.hid hb1
  obtain ⟨W2, c2, hcv, bW2, hc2, hbs2⟩ := conv_str w1 (n4 ++ x)
  have hts : (n4 ++ x).size = 4 + x.size := by simp [z4]
  have htd : (n4 ++ x).data.toList = Rec.be4 x.size ++ x.data.toList := by rw [hn4]; simp
  have za : ¬ 9223372036854775807 < n4.size + x.size := by omega
  rw [htd] at hbs2
  have HBS := Lib.hid hbs2
  have HB2 := Lib.hid (below_then hb1 bW2)
  have hll : Hid ((Rec.be4 x.size ++ x.data.toList).length = 4 + x.size) := by
    show (Rec.be4 x.size ++ x.data.toList).length = 4 + x.size
    rw [List.length_append, Rec.be4_length, hxl]
  have hml : Hid (4 + x.size ≤ maxLen) := by
    show 4 + x.size ≤ maxLen
    unfold maxLen; omega
  obtain ⟨m, hm⟩ : ∃ m, Rec.sum (Rec.be4 x.size) x.data.toList = m := ⟨_, rfl⟩
  have hml2 : m < 4294967296 := by rw [← hm]; exact Rec.sum_lt _ _
  obtain ⟨s4, hs4⟩ : ∃ s4 : ByteArray, s4 = ⟨(Rec.be4 m).toArray⟩ := ⟨_, rfl⟩
  have HS4 := Lib.hid hs4
  have y4 : s4.size = 4 := by rw [hs4]; rfl
  have hfr : n4 ++ s4 ++ x = ⟨(Rec.fr x.data.toList).toArray⟩ := by
    apply bytes_eq
    rw [hn4, hs4, ← hm, Rec.fr, hxl]
    simp
  have HFR := Lib.hid hfr
  have zb : ¬ 9223372036854775807 < n4.size + s4.size := by omega
  have zc : ¬ 9223372036854775807 < (n4 ++ s4).size + x.size := by simp [z4, y4]; omega
  have zd : (n4 ++ s4).size = 8 := by simp [z4, y4]
  have HM := Lib.hid hm
  clear hs4 hfr hm
  clear hn4 hxl hts htd hb1 bW2 hbs2
  go_wp2_with fail
  go_at_call 18
  refine (refcrc_at (some ⟨w1.heap.size, 0, none⟩) _ (4 + x.size) c2 _ _ hll.out hml.out HBS.out).mono ?_
  rintro e w3 ⟨rfl, rfl⟩
  rw [show (Crc.crc 0#32 (Rec.be4 x.size ++ x.data.toList)).toNat = m from HM.out]
  go_wp2_with fail
  go_at_call 17
  refine (four_any m hml2 _).mono ?_
  rintro e w4 ⟨rfl, hb4⟩
  rw [← HS4.out]
  go_wp2_with fail
  go_ret2
  exact ⟨by rw [← HFR.out]; rfl, below_then HB2.out hb4⟩
end Go.Proofs.Ytmikdnjjnadimaa
