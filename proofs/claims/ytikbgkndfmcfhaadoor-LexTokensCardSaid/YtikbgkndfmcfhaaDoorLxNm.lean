/- Package lex: Name. -/
import Derived.Test.YtikbgkndfmcfhaaDoorLxW
import Derived.Test.YtikbgkndfmcfhaaDoorLxB
namespace Go.Proofs.YtikbgkndfmcfhaaDoor
open Go.RowKit
set_option linter.unusedVariables false
theorem isName_def (l : List UInt8) (hne : l ≠ []) : LxM.isName l = (decide (l.length ≤ 32) && !LxM.dg (LxM.hd l) && !LxM.isWord l && l.all fun c => LxM.wd (LxM.i c)) := by
  cases l with
  | nil => exact absurd rfl hne
  | cons c r =>
    unfold LxM.isName
    have h1 : decide (1 ≤ (c :: r).length) = true := decide_eq_true (by simp)
    rw [h1, Bool.true_and]
    show (_ && LxM.lt (LxM.i c) && _ && _) = (_ && !LxM.dg (LxM.i c) && _ && _)
    rw [List.all_cons]
    have dis : LxM.lt (LxM.i c) = true → LxM.dg (LxM.i c) = true → False := by
      unfold LxM.lt LxM.dg
      simp only [Bool.or_eq_true, Bool.and_eq_true, decide_eq_true_eq]
      intro a b
      omega
    show _ = (_ && _ && _ && ((LxM.lt (LxM.i c) || LxM.dg (LxM.i c)) && _))
    show (_ && _ && ((LxM.lt (LxM.i c) || LxM.dg (LxM.i c)) && _) && _) = _
    revert dis
    generalize LxM.lt (LxM.i c) = x
    generalize LxM.dg (LxM.i c) = y
    generalize decide ((c :: r).length ≤ 32) = d
    generalize LxM.isWord (c :: r) = u
    generalize (r.all fun c => LxM.wd (LxM.i c)) = z
    revert x y d u z
    decide
theorem all_upto (l : List UInt8) (k : Nat) (hk : k < l.length) (h : (l.take k).all (fun c => LxM.wd (LxM.i c)) = true) (h2 : LxM.wd (LxM.i l[k]) = true) : (l.take (k + 1)).all (fun c => LxM.wd (LxM.i c)) = true := by
  rw [List.take_succ_eq_append_getElem hk, List.all_append, h]
  simp [h2]
theorem all_not (l : List UInt8) (k : Nat) (hk : k < l.length) (h2 : LxM.wd (LxM.i l[k]) = false) : l.all (fun c => LxM.wd (LxM.i c)) = false := by
  rw [← Bool.not_eq_true, List.all_eq_true]
  intro h
  have := h l[k] (List.getElem_mem hk)
  rw [h2] at this
  cases this
set_option maxHeartbeats 2000000 in
theorem name_any (s : ByteArray) (w : World) (hs : s.size ≤ 1048576) :
    Calls Tryd.prog 14 #[.string s] w fun e w' => e = .returned (.bool (LxM.isName s.data.toList)) ∧ w = w' := by
  have WD := fun w => word_any s w
  have z0 : s.data.toList.length = s.size := by simp
  by_cases he : s.size = 0
  · have e0 : s.data.toList = [] := List.eq_nil_of_length_eq_zero (by omega)
    have hb : (s.toList == []) = true := by rw [Go.ByteArray.toList_eq, e0]; rfl
    go_enter Tryd.func14, Tryd.ntmps14
    go_wp2_with fail
    go_ret
    exact ⟨by rw [e0]; rfl, rfl⟩
  · have hne : s.data.toList ≠ [] := by intro e; rw [e] at z0; simp at z0; omega
    have hb : (s.toList == []) = false := by
      rw [Go.ByteArray.toList_eq, beq_eq_false_iff_ne]; exact hne
    rw [isName_def _ hne]
    have hp : 0 < s.size := by omega
    have hpi : (0 : Int) < (s.size : Int) := by omega
    have eh : LxM.hd s.data.toList = (s[0].toNat : Int) := by
      have := drop_cons s 0 hp
      rw [List.drop_zero] at this
      rw [this]; rfl
    have b0 := s[0].toNat_lt
    have w0 : wrap64 (s[0].toNat : Int) = (s[0].toNat : Int) := by unfold wrap64; omega
    have DG := fun w => dig_any (s[0].toNat : Int) w (by omega) (by omega)
    rw [z0, eh]
    obtain ⟨dv, hdv⟩ : ∃ dv, LxM.dg (s[0].toNat : Int) = dv := ⟨_, rfl⟩
    obtain ⟨wv, hwv⟩ : ∃ wv, LxM.isWord s.data.toList = wv := ⟨_, rfl⟩
    rw [hdv] at DG ⊢
    rw [hwv] at WD ⊢
    by_cases hl : s.size ≤ 32
    · have hl1 : decide (32 < s.size) = false := decide_eq_false (by omega)
      have hl2 : (s.size : Int) ≤ 32 := by omega
      have hl3 : ¬ 32 < s.size := by omega
      rw [decide_eq_true hl]
      cases dv with
      | true =>
        go_enter Tryd.func14, Tryd.ntmps14
        go_wp2_with (first
          | (go_at_call 25; refine (DG _).mono ?_; rintro e w' ⟨rfl, rfl⟩)
          | (go_at_call 12; refine (WD _).mono ?_; rintro e w' ⟨rfl, rfl⟩))
        go_ret
        exact ⟨by simp, rfl⟩
      | false =>
        cases wv with
        | true =>
          go_enter Tryd.func14, Tryd.ntmps14
          go_wp2_with (first
            | (go_at_call 25; refine (DG _).mono ?_; rintro e w' ⟨rfl, rfl⟩)
            | (go_at_call 12; refine (WD _).mono ?_; rintro e w' ⟨rfl, rfl⟩))
          go_ret
          exact ⟨by simp, rfl⟩
        | false =>
          obtain ⟨av, hav⟩ : ∃ av, (s.data.toList.all fun c => LxM.wd (LxM.i c)) = av := ⟨_, rfl⟩
          rw [hav]
          have HAV := Lib.hid hav
          have HL := Lib.hid hl
          have Z0 := Lib.hid z0
          clear hdv hwv eh hl hav
          go_enter Tryd.func14, Tryd.ntmps14
          go_wp2_with (first
            | (go_at_call 25; refine (DG _).mono ?_; rintro e w' ⟨rfl, rfl⟩)
            | (go_at_call 12; refine (WD _).mono ?_; rintro e w' ⟨rfl, rfl⟩))
          go_loopw [3, 23] (fun _ i wr => ∃ k : Nat, k ≤ s.size ∧ i = .int .i64 k ∧ (s.data.toList.take k).all (fun c => LxM.wd (LxM.i c)) = true ∧ wr = w) (fun _ i _ => s.size - (intOf i).toNat)
          case atStart => exact ⟨0, Nat.zero_le _, rfl, rfl, rfl⟩
          case round =>
            obtain ⟨k, hk, rfl, hall, hwr⟩ := hrel
            obtain rfl := hwr
            have HA := Lib.hid hall
            have k0 : (0 : Int) ≤ (k : Int) := by omega
            clear hall
            by_cases hlt : k < s.size
            · have k1 : (k : Int) < (s.size : Int) := by omega
              have hkl : k < s.data.toList.length := by rw [Z0.out]; exact hlt
              have bk := s[k].toNat_lt
              have wk : wrap64 (s[k].toNat : Int) = (s[k].toNat : Int) := by unfold wrap64; omega
              have WR := fun w => wrd_any (s[k].toNat : Int) w (by omega) (by omega)
              have ek : LxM.i s.data.toList[k] = (s[k].toNat : Int) := by
                have : s.data.toList[k] = s[k] := by simp; rfl
                rw [this]; rfl
              have wk1 : wrap64 ((k : Int) + 1) = ((k + 1 : Nat) : Int) := by have := HL.out; unfold wrap64; omega
              cases hw : LxM.wd (s[k].toNat : Int)
              · rw [hw] at WR
                have NA : Hid (av = false) := by
                  show av = false
                  rw [← HAV.out]; exact all_not _ k hkl (by rw [ek]; exact hw)
                clear ek hw
                go_wp2_with (go_at_call 26; refine (WR _).mono ?_; rintro e w' ⟨rfl, rfl⟩)
                go_ret
                exact ⟨by rw [NA.out]; rfl, rfl⟩
              · rw [hw] at WR
                have NA := Lib.hid (all_upto _ k hkl HA.out (by rw [ek]; exact hw))
                clear ek hw
                go_wp2_with (go_at_call 26; refine (WR _).mono ?_; rintro e w' ⟨rfl, rfl⟩)
                refine ⟨⟨k + 1, hlt, by first | rfl | rw [wk1], NA.out, trivial⟩, by simp [intOf]; omega⟩
            · obtain rfl : k = s.size := by omega
              have NA : Hid (av = true) := by
                show av = true
                rw [← HAV.out]
                have := HA.out
                rwa [List.take_of_length_le (by rw [Z0.out]; exact Nat.le_refl _)] at this
              go_wp2_with fail
              go_ret
              exact ⟨by rw [NA.out]; rfl, rfl⟩
    · have hl1 : decide (32 < s.size) = true := decide_eq_true (by omega)
      have hl2 : (32 : Int) < (s.size : Int) := by omega
      have hl3 : 32 < s.size := by omega
      rw [decide_eq_false hl]
      go_enter Tryd.func14, Tryd.ntmps14
      go_wp2_with (first
        | (go_at_call 25; refine (DG _).mono ?_; rintro e w' ⟨rfl, rfl⟩)
        | (go_at_call 12; refine (WD _).mono ?_; rintro e w' ⟨rfl, rfl⟩))
      go_ret
      exact ⟨by simp, rfl⟩
end Go.Proofs.YtikbgkndfmcfhaaDoor
