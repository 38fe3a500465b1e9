/- The law ScopeMany walked (printed by genscM.py). -/
import Derived.Test.YtclfjkleijkekaaScZ2x
namespace Go.Proofs.Ytclfjkleijkekaa
open Go.RowKit PrM
set_option linter.unusedVariables false
set_option linter.unusedSimpArgs false
set_option maxRecDepth 20000 in
set_option maxHeartbeats 8000000 in
theorem many_walk (w : World) (n : Int) (inn : Bool) (bs : Int) : Calls Try.prog 5 #[.int .i64 n, .bool inn, .int .i64 bs] w fun en w' => en = .returned (.bool true) ∧ Below w.heap.size w w' := by
  have TO := Lib.hid (fun W => told_s W)
  obtain ⟨j, hj, hm⟩ := mod20u n
  obtain ⟨b, hb, hu⟩ := mod20u bs
  have i0 : (0 : Int) ≤ (j : Int) := by omega
  have i1 : (j : Int) < 20 := by omega
  have i2 : (0 : Int) ≤ (b : Int) := by omega
  have i3 : (b : Int) < 20 := by omega
  cases inn
  · go_enter Try.func5, Try.ntmps5
    go_wp2_with fail
    go_loopw [8, 9] (fun u8 u9 wr => ∃ (i : Nat) (t : ByteArray), u8 = .string t ∧ u9 = .int .i64 (i : Int) ∧ i ≤ b ∧ t.data.toList = [] ++ Mny.blks i [] ∧ wr = w) (fun _ u9 _ => b - (intOf u9).toNat)
    case atStart => exact ⟨0, _, rfl, rfl, Nat.zero_le _, rfl, rfl⟩
    case round =>
      obtain ⟨i, t, rfl, rfl, hi, ht, hwr⟩ := hrel
      obtain rfl := hwr
      have k0 : (0 : Int) ≤ (i : Int) := by omega
      have ts : t.size = 0 + 23 * i := by rw [size_of ht, List.length_append, Mny.blks_len]; show 0 + (23 * i + 0) = _; omega
      have wi : wrap64 ((i : Int) + 1) = (i : Int) + 1 := by unfold wrap64; omega
      have HT := Lib.hid ht
      have HI := Lib.hid hi
      have TS := Lib.hid ts
      by_cases hlt : i < b
      · have hl1 : (i : Int) < (b : Int) := by omega
        have c1 : ¬ 9223372036854775807 < t.size + 23 := by omega
        clear ht hi ts
        go_wp2_with fail
        refine ⟨⟨i + 1, _, rfl, rfl, hlt, ?_, trivial⟩, ?_⟩
        · rw [put_bytes, HT.out, List.append_assoc, Mny.blks_more]
          exact congrArg ([] ++ ·) (Mny.blks_next i [])
        · simp only [intOf]
          omega
      · obtain rfl : i = b := by omega
        clear ht hi ts hlt
        go_wp2_with fail
        go_loopw [8, 10, 12] (fun u8 u10 u12 wq => ∃ (i2 : Nat) (t2 : ByteArray), u8 = .string t2 ∧ u10 = .int .i64 (if i2 ≤ 148 then 0 else ((23 * i + 8 * 148 : Nat) : Int)) ∧ u12 = .int .i64 (i2 : Int) ∧ i2 ≤ 140 + j ∧ t2.data.toList = [] ++ Mny.blks i (Mny.locs i2 []) ∧ wq = wr) (fun _ _ u12 _ => (140 + j) - (intOf u12).toNat)
        case atStart => exact ⟨0, t, rfl, rfl, rfl, Nat.zero_le _, HT.out, rfl⟩
        case round =>
          obtain ⟨i2, t2, rfl, rfl, rfl, hi2, ht2, hwr⟩ := hrel
          obtain rfl := hwr
          have k2 : (0 : Int) ≤ (i2 : Int) := by omega
          have ts2 : t2.size = 0 + (23 * i + 8 * i2) := by rw [size_of ht2, List.length_append, Mny.blks_len, Mny.locs_len]; show 0 + (23 * i + (8 * i2 + 0)) = _; omega
          have wi2 : wrap64 ((i2 : Int) + 1) = (i2 : Int) + 1 := by unfold wrap64; omega
          have HT2 := Lib.hid ht2
          have HI2 := Lib.hid hi2
          have TS2 := Lib.hid ts2
          by_cases hlt2 : i2 < 140 + j
          · have hl2 : (i2 : Int) < 140 + (j : Int) := by omega
            have c2 : ¬ 9223372036854775807 < t2.size + 8 := by omega
            have NX : (t2 ++ (⟨#[108, 111, 99, 97, 108, 32, 99, 32]⟩ : ByteArray)).data.toList = [] ++ Mny.blks i (Mny.locs (i2 + 1) []) := by
              rw [put_bytes, ht2, List.append_assoc, Mny.blks_more, Mny.locs_more]
              exact congrArg (fun z => [] ++ Mny.blks i z) (Mny.locs_next i2 [])
            have HX := Lib.hid NX
            by_cases hq : i2 = 148
            · subst hq
              rw [if_pos (Nat.le_refl _)]
              have ez : ((148 : Nat) : Int) = 148 := rfl
              rw [ez]
              clear ht2 hi2 ts2 NX ez
              go_wp2_with fail
              refine ⟨⟨148 + 1, _, rfl, ?_, rfl, hlt2, HX.out, trivial⟩, ?_⟩
              · rw [TS2.out, show 0 + (23 * i + 8 * 148) = 23 * i + 8 * 148 by omega]
                rfl
              · simp only [intOf]
                omega
            · have hq1 : ((i2 : Int) == 148) = false := by rw [beq_eq_false_iff_ne]; omega
              have NI := Lib.hid (show (i2 ≤ 148) = (i2 + 1 ≤ 148) by apply propext; omega)
              obtain ⟨v, hv⟩ : ∃ v : Int, (if i2 ≤ 148 then 0 else ((23 * i + 8 * 148 : Nat) : Int)) = v := ⟨_, rfl⟩
              have HV := Lib.hid hv
              rw [hv]
              clear ht2 hi2 ts2 NX hq hv
              go_wp2_with fail
              refine ⟨⟨i2 + 1, _, rfl, ?_, rfl, hlt2, HX.out, trivial⟩, ?_⟩
              · rw [← HV.out]
                simp only [NI.out]
              · simp only [intOf]
                omega
          · obtain rfl : i2 = 140 + j := by omega
            clear ht2 hi2 ts2 hlt2
            obtain ⟨hok, hc⟩ := Mny.many_top (s := t2) (b := i) (k := 140 + j) (by omega) (by omega) (by omega) HT2.out
            by_cases q : 140 + j ≤ 148
            · rw [if_pos q, if_pos q] at hc
              rw [if_pos q]
              have q1 : (140 : Int) + (j : Int) ≤ 148 := by omega
              obtain ⟨M, hM⟩ : ∃ M, (ansS t2).1 = M := ⟨_, rfl⟩
              obtain ⟨k3, k4⟩ := known_at _ hok 0 0 hc M hM
              have SC := Lib.hid k3
              have CK := Lib.hid k4
              clear k3 k4 hM hc hok q
              go_wp2_with (first
                | (go_at_call 9; (with_reducible refine (SC.out _).mono ?_); rintro e w1 ⟨⟨A1, c1, rfl, s1⟩, b1⟩; have S1 := Lib.hid s1; have Y1 := Lib.hid b1; clear s1 b1)
                | (go_at_call 10; refine (CK.out _ _ _ S1.out).mono ?_; rintro e w2 ⟨rfl, b2⟩; have Y2 := Lib.hid (Y1.out.trans (b2.mono Y1.out.size)); clear b2 S1)
                | (go_at_call 8; refine (TO.out _).mono ?_; rintro e w3 ⟨rfl, b3⟩; have Y3 := Lib.hid (Y2.out.trans (b3.mono Y2.out.size)); clear b3))
              go_ret
              exact ⟨by simp, Y3.out⟩
            · rw [if_neg q, if_neg q] at hc
              rw [if_neg q]
              have q1 : ¬ (140 : Int) + (j : Int) ≤ 148 := by omega
              obtain ⟨v, hv⟩ : ∃ v : Int, ((23 * i + 8 * 148 : Nat) : Int) = v := ⟨_, rfl⟩
              rw [hv] at hc
              rw [hv]
              obtain ⟨M, hM⟩ : ∃ M, (ansS t2).1 = M := ⟨_, rfl⟩
              obtain ⟨k3, k4⟩ := known_at _ hok 8 v hc M hM
              have SC := Lib.hid k3
              have CK := Lib.hid k4
              clear k3 k4 hM hc hok q hv
              go_wp2_with (first
                | (go_at_call 9; (with_reducible refine (SC.out _).mono ?_); rintro e w1 ⟨⟨A1, c1, rfl, s1⟩, b1⟩; have S1 := Lib.hid s1; have Y1 := Lib.hid b1; clear s1 b1)
                | (go_at_call 10; refine (CK.out _ _ _ S1.out).mono ?_; rintro e w2 ⟨rfl, b2⟩; have Y2 := Lib.hid (Y1.out.trans (b2.mono Y1.out.size)); clear b2 S1)
                | (go_at_call 8; refine (TO.out _).mono ?_; rintro e w3 ⟨rfl, b3⟩; have Y3 := Lib.hid (Y2.out.trans (b3.mono Y2.out.size)); clear b3))
              go_ret
              exact ⟨by simp, Y3.out⟩

  · go_enter Try.func5, Try.ntmps5
    go_wp2_with fail
    go_loopw [8, 9] (fun u8 u9 wr => ∃ (i : Nat) (t : ByteArray), u8 = .string t ∧ u9 = .int .i64 (i : Int) ∧ i ≤ b ∧ t.data.toList = Mny.pre ++ Mny.blks i [] ∧ wr = w) (fun _ u9 _ => b - (intOf u9).toNat)
    case atStart => exact ⟨0, _, rfl, rfl, Nat.zero_le _, rfl, rfl⟩
    case round =>
      obtain ⟨i, t, rfl, rfl, hi, ht, hwr⟩ := hrel
      obtain rfl := hwr
      have k0 : (0 : Int) ≤ (i : Int) := by omega
      have ts : t.size = 21 + 23 * i := by rw [size_of ht, List.length_append, Mny.blks_len]; show 21 + (23 * i + 0) = _; omega
      have wi : wrap64 ((i : Int) + 1) = (i : Int) + 1 := by unfold wrap64; omega
      have HT := Lib.hid ht
      have HI := Lib.hid hi
      have TS := Lib.hid ts
      by_cases hlt : i < b
      · have hl1 : (i : Int) < (b : Int) := by omega
        have c1 : ¬ 9223372036854775807 < t.size + 23 := by omega
        clear ht hi ts
        go_wp2_with fail
        refine ⟨⟨i + 1, _, rfl, rfl, hlt, ?_, trivial⟩, ?_⟩
        · rw [put_bytes, HT.out, List.append_assoc, Mny.blks_more]
          exact congrArg (Mny.pre ++ ·) (Mny.blks_next i [])
        · simp only [intOf]
          omega
      · obtain rfl : i = b := by omega
        clear ht hi ts hlt
        go_wp2_with fail
        go_loopw [8, 10, 12] (fun u8 u10 u12 wq => ∃ (i2 : Nat) (t2 : ByteArray), u8 = .string t2 ∧ u10 = .int .i64 (if i2 ≤ 150 then 0 else ((21 + 23 * i + 8 * 150 : Nat) : Int)) ∧ u12 = .int .i64 (i2 : Int) ∧ i2 ≤ 140 + j ∧ t2.data.toList = Mny.pre ++ Mny.blks i (Mny.locs i2 []) ∧ wq = wr) (fun _ _ u12 _ => (140 + j) - (intOf u12).toNat)
        case atStart => exact ⟨0, t, rfl, rfl, rfl, Nat.zero_le _, HT.out, rfl⟩
        case round =>
          obtain ⟨i2, t2, rfl, rfl, rfl, hi2, ht2, hwr⟩ := hrel
          obtain rfl := hwr
          have k2 : (0 : Int) ≤ (i2 : Int) := by omega
          have ts2 : t2.size = 21 + (23 * i + 8 * i2) := by rw [size_of ht2, List.length_append, Mny.blks_len, Mny.locs_len]; show 21 + (23 * i + (8 * i2 + 0)) = _; omega
          have wi2 : wrap64 ((i2 : Int) + 1) = (i2 : Int) + 1 := by unfold wrap64; omega
          have HT2 := Lib.hid ht2
          have HI2 := Lib.hid hi2
          have TS2 := Lib.hid ts2
          by_cases hlt2 : i2 < 140 + j
          · have hl2 : (i2 : Int) < 140 + (j : Int) := by omega
            have c2 : ¬ 9223372036854775807 < t2.size + 8 := by omega
            have NX : (t2 ++ (⟨#[108, 111, 99, 97, 108, 32, 99, 32]⟩ : ByteArray)).data.toList = Mny.pre ++ Mny.blks i (Mny.locs (i2 + 1) []) := by
              rw [put_bytes, ht2, List.append_assoc, Mny.blks_more, Mny.locs_more]
              exact congrArg (fun z => Mny.pre ++ Mny.blks i z) (Mny.locs_next i2 [])
            have HX := Lib.hid NX
            by_cases hq : i2 = 150
            · subst hq
              rw [if_pos (Nat.le_refl _)]
              have ez : ((150 : Nat) : Int) = 150 := rfl
              rw [ez]
              clear ht2 hi2 ts2 NX ez
              go_wp2_with fail
              refine ⟨⟨150 + 1, _, rfl, ?_, rfl, hlt2, HX.out, trivial⟩, ?_⟩
              · rw [TS2.out, show 21 + (23 * i + 8 * 150) = 21 + 23 * i + 8 * 150 by omega]
                rfl
              · simp only [intOf]
                omega
            · have hq1 : ((i2 : Int) == 150) = false := by rw [beq_eq_false_iff_ne]; omega
              have NI := Lib.hid (show (i2 ≤ 150) = (i2 + 1 ≤ 150) by apply propext; omega)
              obtain ⟨v, hv⟩ : ∃ v : Int, (if i2 ≤ 150 then 0 else ((21 + 23 * i + 8 * 150 : Nat) : Int)) = v := ⟨_, rfl⟩
              have HV := Lib.hid hv
              rw [hv]
              clear ht2 hi2 ts2 NX hq hv
              go_wp2_with fail
              refine ⟨⟨i2 + 1, _, rfl, ?_, rfl, hlt2, HX.out, trivial⟩, ?_⟩
              · rw [← HV.out]
                simp only [NI.out]
              · simp only [intOf]
                omega
          · obtain rfl : i2 = 140 + j := by omega
            clear ht2 hi2 ts2 hlt2
            have c3 : ¬ 9223372036854775807 < t2.size + 3 := by have := TS2.out; omega
            obtain ⟨hok, hc⟩ := Mny.many_fun (s := (t2 ++ (⟨#[101, 110, 100]⟩ : ByteArray))) (b := i) (k := 140 + j) (by omega) (by omega) (by omega) (by rw [put_bytes, HT2.out, List.append_assoc, Mny.blks_more, Mny.locs_more]; rfl)
            by_cases q : 140 + j ≤ 150
            · rw [if_pos q, if_pos q] at hc
              rw [if_pos q]
              have q1 : (140 : Int) + (j : Int) ≤ 150 := by omega
              obtain ⟨M, hM⟩ : ∃ M, (ansS (t2 ++ (⟨#[101, 110, 100]⟩ : ByteArray))).1 = M := ⟨_, rfl⟩
              obtain ⟨k3, k4⟩ := known_at _ hok 0 0 hc M hM
              have SC := Lib.hid k3
              have CK := Lib.hid k4
              clear k3 k4 hM hc hok q
              go_wp2_with (first
                | (go_at_call 9; (with_reducible refine (SC.out _).mono ?_); rintro e w1 ⟨⟨A1, c1, rfl, s1⟩, b1⟩; have S1 := Lib.hid s1; have Y1 := Lib.hid b1; clear s1 b1)
                | (go_at_call 10; refine (CK.out _ _ _ S1.out).mono ?_; rintro e w2 ⟨rfl, b2⟩; have Y2 := Lib.hid (Y1.out.trans (b2.mono Y1.out.size)); clear b2 S1)
                | (go_at_call 8; refine (TO.out _).mono ?_; rintro e w3 ⟨rfl, b3⟩; have Y3 := Lib.hid (Y2.out.trans (b3.mono Y2.out.size)); clear b3))
              go_ret
              exact ⟨by simp, Y3.out⟩
            · rw [if_neg q, if_neg q] at hc
              rw [if_neg q]
              have q1 : ¬ (140 : Int) + (j : Int) ≤ 150 := by omega
              obtain ⟨v, hv⟩ : ∃ v : Int, ((21 + 23 * i + 8 * 150 : Nat) : Int) = v := ⟨_, rfl⟩
              rw [hv] at hc
              rw [hv]
              obtain ⟨M, hM⟩ : ∃ M, (ansS (t2 ++ (⟨#[101, 110, 100]⟩ : ByteArray))).1 = M := ⟨_, rfl⟩
              obtain ⟨k3, k4⟩ := known_at _ hok 8 v hc M hM
              have SC := Lib.hid k3
              have CK := Lib.hid k4
              clear k3 k4 hM hc hok q hv
              go_wp2_with (first
                | (go_at_call 9; (with_reducible refine (SC.out _).mono ?_); rintro e w1 ⟨⟨A1, c1, rfl, s1⟩, b1⟩; have S1 := Lib.hid s1; have Y1 := Lib.hid b1; clear s1 b1)
                | (go_at_call 10; refine (CK.out _ _ _ S1.out).mono ?_; rintro e w2 ⟨rfl, b2⟩; have Y2 := Lib.hid (Y1.out.trans (b2.mono Y1.out.size)); clear b2 S1)
                | (go_at_call 8; refine (TO.out _).mono ?_; rintro e w3 ⟨rfl, b3⟩; have Y3 := Lib.hid (Y2.out.trans (b3.mono Y2.out.size)); clear b3))
              go_ret
              exact ⟨by simp, Y3.out⟩

end Go.Proofs.Ytclfjkleijkekaa
