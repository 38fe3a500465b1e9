/- The document's own answer: digits to the base 16, blanks and remarks, signs, numbers. -/
import Derived.Test.YtikbgkndfmcfhaaDoorLxA1
namespace Go.Proofs.YtikbgkndfmcfhaaDoor
open Go.RowKit
set_option linter.unusedVariables false
theorem rhex_any (c : UInt8) (w : World) :
    Calls Tryd.prog 36 #[.int .u8 (c.toNat : Int)] w fun e w' => e = .returned (.int .i64 (LxM.hx (LxM.i c))) ∧ w = w' := by
  have h1 := c.toNat_lt
  have DI := fun w => rdig_any c w
  unfold LxM.hx
  have e0 : LxM.dg (LxM.i c) = true → 48 ≤ (c.toNat : Int) ∧ (c.toNat : Int) ≤ 57 := fun h => ⟨of_decide_eq_true (Bool.and_eq_true_iff.1 h).1, of_decide_eq_true (Bool.and_eq_true_iff.1 h).2⟩
  obtain ⟨d, ed⟩ : ∃ d, LxM.dg (LxM.i c) = d := ⟨_, rfl⟩
  rw [ed] at DI e0 ⊢
  clear ed
  unfold LxM.i
  obtain ⟨b, eb⟩ : ∃ b : Int, (c.toNat : Int) = b := ⟨_, rfl⟩
  rw [eb] at DI e0 ⊢
  have b0 : 0 ≤ b := by omega
  have b1 : b < 256 := by omega
  clear h1 eb
  cases d with
  | false =>
    clear e0
    rw [if_neg (by decide)]
    by_cases p : 97 ≤ b ∧ b ≤ 102
    · obtain ⟨p1, p2⟩ := p
      have e2 : (b - 97) % 256 = b - 97 := by omega
      have e4 : wrap64 (b - 97 + 10) = b - 97 + 10 := by unfold wrap64; omega
      have ee : (if (decide (97 ≤ b) && decide (b ≤ 102)) = true then b - 87 else if (decide (65 ≤ b) && decide (b ≤ 70)) = true then b - 55 else -1) = b - 97 + 10 := by
        rw [if_pos (by simp [p1, p2])]; omega
      rw [ee]
      go_enter Tryd.func36, Tryd.ntmps36
      go_wp2_with (go_at_call 20; refine (DI _).mono ?_; rintro e w' ⟨rfl, rfl⟩)
      go_ret
      exact ⟨rfl, rfl⟩
    · by_cases q : 65 ≤ b ∧ b ≤ 70
      · obtain ⟨p1, p2⟩ := q
        have e2 : (b - 65) % 256 = b - 65 := by omega
        have e4 : wrap64 (b - 65 + 10) = b - 65 + 10 := by unfold wrap64; omega
        have q1 : ¬ 97 ≤ b := by omega
        have ee : (if (decide (97 ≤ b) && decide (b ≤ 102)) = true then b - 87 else if (decide (65 ≤ b) && decide (b ≤ 70)) = true then b - 55 else -1) = b - 65 + 10 := by
          rw [if_neg (by simp [q1]), if_pos (by simp [p1, p2])]; omega
        rw [ee]
        clear p
        go_enter Tryd.func36, Tryd.ntmps36
        go_wp2_with (go_at_call 20; refine (DI _).mono ?_; rintro e w' ⟨rfl, rfl⟩)
        go_ret
        exact ⟨rfl, rfl⟩
      · have ee : (if (decide (97 ≤ b) && decide (b ≤ 102)) = true then b - 87 else if (decide (65 ≤ b) && decide (b ≤ 70)) = true then b - 55 else -1) = -1 := by
          rw [if_neg (by simpa using p), if_neg (by simpa using q)]
        rw [ee]
        have s1 : b < 65 ∨ 70 < b ∧ b < 97 ∨ 102 < b := by omega
        clear p q ee
        rcases s1 with p1 | ⟨p1, p2⟩ | p1
        all_goals
          go_enter Tryd.func36, Tryd.ntmps36
          go_wp2_with (go_at_call 20; refine (DI _).mono ?_; rintro e w' ⟨rfl, rfl⟩)
          go_ret
          exact ⟨rfl, rfl⟩
  | true =>
    obtain ⟨p1, p2⟩ := e0 rfl
    rw [if_pos rfl]
    have e2 : (b - 48) % 256 = b - 48 := by omega
    go_enter Tryd.func36, Tryd.ntmps36
    go_wp2_with (go_at_call 20; refine (DI _).mono ?_; rintro e w' ⟨rfl, rfl⟩)
    go_ret
    exact ⟨rfl, rfl⟩
/-- How far blanks and remarks go. -/
def sp (s : ByteArray) (k : Nat) : Nat := s.size - (LxM.sk false (s.data.toList.drop k)).length
theorem sk_at (s : ByteArray) (m : Bool) (k : Nat) : (LxM.sk m (s.data.toList.drop k)).length ≤ s.size - k := by
  have := LxM.sk_len (s.data.toList.drop k) m
  simpa using this
theorem sk_end (s : ByteArray) (m : Bool) (k : Nat) (h : s.size ≤ k) : LxM.sk m (s.data.toList.drop k) = [] := by
  rw [drop_none s k h]; cases m <;> rfl
theorem sk_blank (s : ByteArray) (k : Nat) (h : k < s.size) (hb : LxM.bl (LxM.i s[k]) = true) : LxM.sk false (s.data.toList.drop k) = LxM.sk false (s.data.toList.drop (k + 1)) := by
  rw [drop_cons s k h, LxM.sk, if_pos hb]
theorem sk_in (s : ByteArray) (k : Nat) (h : k < s.size) (hb : s[k] ≠ 10) : LxM.sk true (s.data.toList.drop k) = LxM.sk true (s.data.toList.drop (k + 1)) := by
  rw [drop_cons s k h, LxM.sk, if_neg hb]
theorem sk_nl (s : ByteArray) (k : Nat) (h : k < s.size) (hb : s[k] = 10) : LxM.sk true (s.data.toList.drop k) = LxM.sk false (s.data.toList.drop k) := by
  rw [drop_cons s k h, LxM.sk, if_pos hb, LxM.sk, if_pos (by rw [hb]; decide)]
theorem sk_rem (s : ByteArray) (k : Nat) (h : k + 1 < s.size) (h1 : s[k] = 45) (h2 : s[k + 1] = 45) : LxM.sk false (s.data.toList.drop k) = LxM.sk true (s.data.toList.drop k) := by
  have e1 : LxM.sk false (s[k] :: s.data.toList.drop (k + 1)) = LxM.sk true (s.data.toList.drop (k + 1)) := by
    rw [LxM.sk, if_neg (by rw [h1]; decide), if_pos ⟨h1, by rw [drop_cons s (k + 1) h, LxM.hd, h2]; decide⟩]
  have e2 : LxM.sk true (s[k] :: s.data.toList.drop (k + 1)) = LxM.sk true (s.data.toList.drop (k + 1)) := by
    rw [LxM.sk, if_neg (by rw [h1]; decide)]
  rw [drop_cons s k (by omega), e1, e2]
theorem bl_iff (b : Int) : LxM.bl b = true ↔ b = 32 ∨ b = 9 ∨ b = 10 ∨ b = 13 := by simp [LxM.bl, or_assoc]
theorem exd2 (s : ByteArray) (a b : Nat) : (s.extract a b).data.toList = (s.data.toList.drop a).take (b - a) := by simp [ByteArray.data_extract, List.extract_eq_take_drop]
theorem ext_two (s : ByteArray) (k : Nat) (h : k + 1 < s.size) : (s.extract k (k + 2)).toList = [s[k], s[k + 1]] := by
  rw [Go.ByteArray.toList_eq, exd2, drop_cons s k (by omega), drop_cons s (k + 1) h, show k + 2 - k = 2 by omega]
  rfl
theorem sk_stop (s : ByteArray) (k : Nat) (h : k < s.size) (hb : LxM.bl (LxM.i s[k]) = false) (h2 : ∀ g : k + 1 < s.size, ¬ (s[k] = 45 ∧ s[k + 1] = 45)) : LxM.sk false (s.data.toList.drop k) = s.data.toList.drop k := by
  rw [drop_cons s k h, LxM.sk, if_neg (by rw [hb]; decide), if_neg]
  rintro ⟨e1, e2⟩
  by_cases g : k + 1 < s.size
  · rw [drop_cons s (k + 1) g, LxM.hd] at e2
    refine h2 g ⟨e1, ?_⟩
    apply UInt8.toNat_inj.1
    show _ = 45
    have : ((s[k + 1].toNat : Nat) : Int) = 45 := e2
    omega
  · rw [drop_none s (k + 1) (by omega)] at e2
    exact absurd e2 (by decide)
set_option maxHeartbeats 2000000 in
theorem rskip_any (s : ByteArray) (k : Nat) (w : World) (hk : k ≤ s.size) (hs : s.size ≤ 1048576) :
    Calls Tryd.prog 17 #[.string s, .int .i64 (k : Int)] w fun e w' => e = .returned (.int .i64 (sp s k : Int)) ∧ w = w' := by
  obtain ⟨r, hr⟩ : ∃ r, LxM.sk false (s.data.toList.drop k) = r := ⟨_, rfl⟩
  unfold sp
  rw [hr]
  have HR := Lib.hid hr
  clear hr
  go_enter Tryd.func17, Tryd.ntmps17
  go_wp2_with fail
  go_loopw [1] (fun i wr => ∃ j : Nat, k ≤ j ∧ j ≤ s.size ∧ i = .int .i64 j ∧ LxM.sk false (s.data.toList.drop j) = r ∧ wr = w) (fun i _ => s.size - (intOf i).toNat)
  case atStart => exact ⟨k, Nat.le_refl _, hk, rfl, HR.out, rfl⟩
  case round =>
    obtain ⟨j, hkj, hj, rfl, hrn, hwr⟩ := hrel
    obtain rfl := hwr
    have HRN := Lib.hid hrn
    have j0 : (0 : Int) ≤ (j : Int) := by omega
    clear hrn
    by_cases hlt : j < s.size
    · have j1 : (j : Int) < (s.size : Int) := by omega
      have wk1 : wrap64 ((j : Int) + 1) = ((j + 1 : Nat) : Int) := by unfold wrap64; omega
      have wk2 : wrap64 ((j : Int) + 2) = ((j + 2 : Nat) : Int) := by unfold wrap64; omega
      obtain ⟨c, ec⟩ : ∃ c, s[j] = c := ⟨_, rfl⟩
      have EC := Lib.hid ec
      by_cases hb : LxM.bl (LxM.i c) = true
      · have NX := Lib.hid (sk_blank s j hlt (by rw [ec]; exact hb))
        have HQ : ((c.toNat : Int) == 32) = true ∨ ((c.toNat : Int) == 32) = false ∧ ((c.toNat : Int) == 9) = true ∨ ((c.toNat : Int) == 32) = false ∧ ((c.toNat : Int) == 9) = false ∧ ((c.toNat : Int) == 10) = true ∨ ((c.toNat : Int) == 32) = false ∧ ((c.toNat : Int) == 9) = false ∧ ((c.toNat : Int) == 10) = false ∧ ((c.toNat : Int) == 13) = true := by
          simp only [beq_iff_eq, beq_eq_false_iff_ne]
          have := (bl_iff _).1 hb
          unfold LxM.i at this
          omega
        clear hb
        rcases HQ with q1 | ⟨q1, q2⟩ | ⟨q1, q2, q3⟩ | ⟨q1, q2, q3, q4⟩
        all_goals
          go_wp2_with fail
          refine ⟨⟨j + 1, by omega, hlt, by first | rfl | rw [wk1], by rw [← NX.out]; exact HRN.out, trivial⟩, by simp [intOf]; omega⟩
      · have q1 : ((c.toNat : Int) == 32) = false := by rw [beq_eq_false_iff_ne]; intro e; exact hb ((bl_iff _).2 (by unfold LxM.i; omega))
        have q2 : ((c.toNat : Int) == 9) = false := by rw [beq_eq_false_iff_ne]; intro e; exact hb ((bl_iff _).2 (by unfold LxM.i; omega))
        have q3 : ((c.toNat : Int) == 10) = false := by rw [beq_eq_false_iff_ne]; intro e; exact hb ((bl_iff _).2 (by unfold LxM.i; omega))
        have q4 : ((c.toNat : Int) == 13) = false := by rw [beq_eq_false_iff_ne]; intro e; exact hb ((bl_iff _).2 (by unfold LxM.i; omega))
        have hb : LxM.bl (LxM.i c) = false := by simpa using hb
        have HB := Lib.hid hb
        clear hb
        by_cases hl2 : j + 1 < s.size
        · have j2 : ((j + 1 : Nat) : Int) < (s.size : Int) := by omega
          have E2 := ext_two s j hl2
          rw [ec] at E2
          by_cases hm : c = 45 ∧ s[j + 1] = 45
          · have e2 : ((s.extract j (j + 2)).toList == [45, 45]) = true := by rw [E2, hm.1, hm.2]; rfl
            have RE := Lib.hid (sk_rem s j hl2 (by rw [ec]; exact hm.1) hm.2)
            have c45 := hm.1
            clear hm E2
            have c45 : LxM.i c = 45 := by rw [c45]; rfl
            have C45 := Lib.hid c45
            clear c45
            go_wp2_with fail
            go_loopw [1] (fun i wr2 => ∃ i2 : Nat, j ≤ i2 ∧ i2 ≤ s.size ∧ i = .int .i64 i2 ∧ (i2 = j → LxM.i c = 45) ∧ LxM.sk true (s.data.toList.drop i2) = r ∧ wr2 = wr) (fun i _ => s.size - (intOf i).toNat)
            case atStart => exact ⟨j, Nat.le_refl _, hj, rfl, fun _ => C45.out, by rw [← RE.out]; exact HRN.out, rfl⟩
            case round =>
              obtain ⟨i2, hji, hi2, rfl, hne, hrn2, hwr2⟩ := hrel
              obtain rfl := hwr2
              have HR2 := Lib.hid hrn2
              have HNE := Lib.hid hne
              have i0 : (0 : Int) ≤ (i2 : Int) := by omega
              clear hrn2 hne
              by_cases hil : i2 < s.size
              · have i1 : (i2 : Int) < (s.size : Int) := by omega
                have wk3 : wrap64 ((i2 : Int) + 1) = ((i2 + 1 : Nat) : Int) := by unfold wrap64; omega
                obtain ⟨x, ex⟩ : ∃ x, s[i2] = x := ⟨_, rfl⟩
                by_cases hx : x = 10
                · have NL := Lib.hid (sk_nl s i2 hil (by rw [ex]; exact hx))
                  have f1 : ((x.toNat : Int) == 10) = true := by rw [hx]; rfl
                  have LT := Lib.hid (show j < i2 by
                    rcases Nat.lt_or_ge j i2 with h | h
                    · exact h
                    · have : i2 = j := by omega
                      subst this
                      have h45 := HNE.out rfl
                      rw [← EC.out, ex, hx] at h45
                      exact absurd h45 (by decide))
                  clear hx
                  go_wp2_with fail
                  have lt := LT.out
                  refine ⟨⟨i2, by omega, hi2, rfl, by rw [← NL.out]; exact HR2.out, trivial⟩, by simp [intOf]; omega⟩
                · have IN := Lib.hid (sk_in s i2 hil (by rw [ex]; exact hx))
                  have f1 : ((x.toNat : Int) == 10) = false := by
                    rw [beq_eq_false_iff_ne]; intro e; apply hx; apply UInt8.toNat_inj.1; show _ = 10; omega
                  clear hx
                  go_wp2_with fail
                  refine ⟨⟨i2 + 1, by omega, hil, by first | rfl | rw [wk3], fun e => absurd e (by omega), by rw [← IN.out]; exact HR2.out, trivial⟩, by simp [intOf]; omega⟩
              · have i1 : (s.size : Int) ≤ (i2 : Int) := by omega
                go_wp2_with fail
                have hr2 := HR2.out
                rw [sk_end s true i2 (by omega)] at hr2
                refine ⟨⟨i2, by omega, hi2, rfl, by rw [sk_end s false i2 (by omega)]; exact hr2, trivial⟩, by simp [intOf]; omega⟩
          · have e2 : ((s.extract j (j + 2)).toList == [45, 45]) = false := by
              rw [E2, beq_eq_false_iff_ne]
              intro e
              injection e with e1 e
              injection e with e2 _
              exact hm ⟨e1, e2⟩
            have ST := Lib.hid (sk_stop s j hlt (by rw [EC.out]; exact HB.out) (fun g => by rw [EC.out]; exact hm))
            clear hm E2
            go_wp2_with fail
            go_ret
            have hrl : s.size - r.length = j := by rw [← HRN.out, ST.out]; simp; omega
            exact ⟨by rw [hrl]; rfl, rfl⟩
        · have j2 : (s.size : Int) ≤ ((j + 1 : Nat) : Int) := by omega
          have ST := Lib.hid (sk_stop s j hlt (by rw [EC.out]; exact HB.out) (fun g => absurd g hl2))
          go_wp2_with fail
          go_ret
          have hrl : s.size - r.length = j := by rw [← HRN.out, ST.out]; simp; omega
          exact ⟨by rw [hrl]; rfl, rfl⟩
    · obtain rfl : j = s.size := by omega
      go_wp2_with fail
      go_ret
      exact ⟨by rw [← HRN.out, sk_end s false _ (Nat.le_refl _)]; rfl, rfl⟩
end Go.Proofs.YtikbgkndfmcfhaaDoor
