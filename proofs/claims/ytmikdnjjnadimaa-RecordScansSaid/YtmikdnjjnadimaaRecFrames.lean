/- The law's own 'frames': the first ten texts as the document's frames, or none if one is too long. -/
import Derived.Test.YtmikdnjjnadimaaRefFrame
import Derived.Test.YtmikdnjjnadimaaRecTx
import Derived.Test.YtmikdnjjnadimaaSlices
namespace Go.Proofs.Ytmikdnjjnadimaa
open Go.RowKit
set_option linter.unusedVariables false
def GInv (w : World) (l : List ByteArray) (vs i : Value) (wr : World) : Prop :=
  ∃ (j : Nat) (xs : ByteArray), (CAt l j xs.data.toList ∧ j ≤ 10) ∧ vs = .string xs ∧ i = .int .i64 j ∧ Below w.heap.size w wr
set_option maxRecDepth 20000 in
set_option maxHeartbeats 4000000 in
theorem frames_any (A : Option Addr) (l : List ByteArray) (n ca : Nat) (hn : l.length = n) (w : World) (hl : Row w A (l.map Value.string)) :
    Calls Try.prog 8 #[.slice A n ca] w fun e w' => (∃ (xs : ByteArray) (ok : Bool), e = .returned (.tuple #[.string xs, .bool ok]) ∧ xs.size ≤ 3080 ∧ (ok = true → ∀ i (h : i < l.length), i < 10 → l[i].size ≤ 300)) ∧ Below w.heap.size w w' := by
  have KL := Lib.hid hl
  have HN := Lib.hid hn
  clear hl hn
  go_enter Try.func8, Try.ntmps8
  go_wp2_with fail
  go_loopw [4, 5] (fun vs i wr => GInv w l vs i wr) (fun _ i _ => n - (intOf i).toNat)
  case atStart => exact ⟨0, ⟨#[]⟩, ⟨⟨Nat.zero_le _, by simp [tx], rfl, Nat.le_refl _⟩, Nat.zero_le _⟩, rfl, rfl, Below.refl _ _⟩
  case round =>
    obtain ⟨j, xs, ⟨hk, hj10⟩, rfl, rfl, hbw⟩ := hrel
    have HK := Lib.hid hk
    have HJ10 := Lib.hid hj10
    have BW := Lib.hid hbw
    have hls : xs.size = xs.data.toList.length := by simp
    have HLS : Hid (xs.size ≤ 3080) := by show xs.size ≤ 3080; rw [hls]; have := hk.s2; omega
    clear hk hbw hls hj10
    have j0 : (0 : Int) ≤ (j : Int) := by omega
    by_cases hlt : j < n ∧ j < 10
    · obtain ⟨h1, h2⟩ := hlt
      have j1 : (j : Int) < (n : Int) := by omega
      have j2 : (j : Int) < 10 := by omega
      obtain ⟨pA, rfl, -, cA⟩ := (KL.out.later BW.out).at_ j (by rw [HN.out]; exact h1)
      obtain ⟨x, hx⟩ : ∃ x, x = l[j]'(by rw [HN.out]; exact h1) := ⟨_, rfl⟩
      have HX := Lib.hid hx
      rw [← hx] at cA
      clear hx
      by_cases hsz : x.size ≤ 300
      · have z1 : (x.size : Int) ≤ 300 := by omega
        have HX1 := Lib.hid (show x.data.toList.length = x.size by simp)
        go_wp2_with fail
        go_at_call 11
        refine (frame_any x (by omega) _).mono ?_
        rintro e w2 ⟨rfl, hb2⟩
        have BW2 := Lib.hid (below_then BW.out hb2)
        have hfs : (ByteArray.mk (Rec.fr x.data.toList).toArray).size = x.size + 8 := by
          show (Rec.fr x.data.toList).toArray.size = _
          rw [List.size_toArray, Rec.fr_length, HX1.out]; omega
        have za : ¬ 9223372036854775807 < xs.size + (x.size + 8) := by have := HLS.out; omega
        have eX : Hid ((xs ++ ByteArray.mk (Rec.fr x.data.toList).toArray).data.toList = xs.data.toList ++ Rec.fr x.data.toList) := by
          show (xs ++ ByteArray.mk (Rec.fr x.data.toList).toArray).data.toList = xs.data.toList ++ Rec.fr x.data.toList
          simp
        have hnx := HK.out.next (by rw [HN.out]; exact h1) (by rw [← HX.out]; exact hsz)
        rw [← HX.out, ← eX.out] at hnx
        have HNX := Lib.hid hnx
        clear hnx hb2
        go_wp2_with fail
        go_roundw
        case rel => exact ⟨j + 1, _, ⟨HNX.out, h2⟩, rfl, by go_num, BW2.out⟩
        case measure => simp [intOf]; omega
      · have z1 : 300 < (x.size : Int) := by omega
        go_wp2_with fail
        go_ret2
        exact ⟨⟨⟨#[]⟩, false, rfl, Nat.zero_le _, fun e => nomatch e⟩, BW.out⟩
    · have hjn := HN.out
      have hsm : ∀ i (h : i < l.length), i < 10 → l[i].size ≤ 300 := fun i hi h10 => by
        have hi' : i < (tx l j).length := by rw [tx_length HK.out.j1]; omega
        have := HK.out.sm _ (List.getElem_mem hi')
        obtain ⟨_, e⟩ := tx_at hi'
        rw [e] at this
        simpa using this
      have HSM := Lib.hid hsm
      have hcode : (n : Int) ≤ (j : Int) ∨ ((j : Int) < (n : Int) ∧ (10 : Int) ≤ (j : Int)) := by
        have := HK.out.j1
        omega
      clear hsm
      rcases hcode with n1 | ⟨n1, n3⟩
      all_goals
        go_wp2_with fail
        go_ret2
        exact ⟨⟨xs, true, rfl, HLS.out, fun _ => HSM.out⟩, BW.out⟩
end Go.Proofs.Ytmikdnjjnadimaa
