/- The contract of the document's own Parse (scriptoriumref1): it returns what ints.Parse returns, for any text; memory stays as it was. -/
import Derived.Test.YtdiedplmgclacaaDoorNum
import Derived.LoopTactic
namespace Go.Proofs.YtdiedplmgclacaaDoor
open Go.RowKit
set_option linter.unusedVariables false

theorem val_u64 {a b : Int} (h : a = b) : Value.int .u64 a = Value.int .u64 b := by rw [h]
/-- What a text without a minus sign is worth. -/
def capP : Option Nat → Int × Bool
  | some v => if v ≤ 9223372036854775807 then ((v : Int), true) else (0, false)
  | none => (0, false)
theorem cap_turn (o : Option Nat) : (if (cap o).2 = true then (subV 0 (cap o).1, subB 0 (cap o).1) else cap o) = capP o := by
  cases o with
  | none => rfl
  | some v =>
    by_cases h : v ≤ 9223372036854775808
    · rw [cap, if_pos h, if_pos rfl]
      by_cases h2 : v ≤ 9223372036854775807
      · have f : -9223372036854775808 ≤ 0 - -(v : Int) ∧ 0 - -(v : Int) ≤ 9223372036854775807 := by omega
        rw [capP, if_pos h2, subV, subB, fitV_yes f, fitB_yes f]
        congr 1; omega
      · rw [capP, if_neg h2, subV, subB, fitV_no (by omega), fitB_no (by omega)]
    · rw [cap, if_neg h, if_neg (by decide), capP, if_neg (by omega)]
theorem cap_yes {v : Nat} (h : v ≤ 9223372036854775808) : cap (some v) = (-(v : Int), true) := by rw [cap, if_pos h]
theorem cap_no {v : Nat} (h : 9223372036854775808 < v) : cap (some v) = (0, false) := by rw [cap, if_neg (by omega)]
theorem capP_yes {v : Nat} (h : v ≤ 9223372036854775807) : capP (some v) = ((v : Int), true) := by rw [capP, if_pos h]
theorem capP_no {v : Nat} (h : 9223372036854775807 < v) : capP (some v) = (0, false) := by rw [capP, if_neg (by omega)]

set_option maxHeartbeats 1000000 in
theorem rp_m_none (s t : ByteArray) (w : World) (hs : s.size ≤ maxLen) (h1 : 0 < s.size) (h2 : (s[0].toNat : Int) = 45) (T : s.extract 1 s.size = t) (ts : t.size < s.size) (h0 : t.size = 0) (E : Hid (ps s.data.toList = (0, false))) :
    Calls Tryd.prog 6 #[.string s] w fun e w' => e = .returned (.tuple #[.int .i64 (ps s.data.toList).1, .bool (ps s.data.toList).2]) ∧ w = w' := by
  unfold maxLen at hs
  obtain rfl := no_bytes h0
  go_enter Tryd.func6, Tryd.ntmps6
  go_wp2
  all_goals go_ret2
  all_goals exact ⟨tup2 (by rw [E.out]) (by rw [E.out]), rfl⟩
set_option maxHeartbeats 1000000 in
theorem rp_m_long (s t : ByteArray) (w : World) (hs : s.size ≤ maxLen) (h1 : 0 < s.size) (h2 : (s[0].toNat : Int) = 45) (T : s.extract 1 s.size = t) (ts : t.size < s.size) (h0 : 19 < t.size) (h5 : t.toList ≠ []) (h6 : t.toList.isEmpty = false) (E : Hid (ps s.data.toList = (0, false))) :
    Calls Tryd.prog 6 #[.string s] w fun e w' => e = .returned (.tuple #[.int .i64 (ps s.data.toList).1, .bool (ps s.data.toList).2]) ∧ w = w' := by
  unfold maxLen at hs
  go_enter Tryd.func6, Tryd.ntmps6
  go_wp2
  all_goals go_ret2
  all_goals exact ⟨tup2 (by rw [E.out]) (by rw [E.out]), rfl⟩
set_option maxHeartbeats 1000000 in
theorem rp_m_zero (s t : ByteArray) (w : World) (hs : s.size ≤ maxLen) (h1 : 0 < s.size) (h2 : (s[0].toNat : Int) = 45) (T : s.extract 1 s.size = t) (ts : t.size < s.size) (h0 : ¬ 19 < t.size) (h3 : 0 < t.size) (h4 : (t[0].toNat : Int) = 48) (h5 : t.toList ≠ []) (h6 : t.toList.isEmpty = false) (E : Hid (ps s.data.toList = (0, false))) :
    Calls Tryd.prog 6 #[.string s] w fun e w' => e = .returned (.tuple #[.int .i64 (ps s.data.toList).1, .bool (ps s.data.toList).2]) ∧ w = w' := by
  unfold maxLen at hs
  go_enter Tryd.func6, Tryd.ntmps6
  go_wp2
  all_goals go_ret2
  all_goals exact ⟨tup2 (by rw [E.out]) (by rw [E.out]), rfl⟩
set_option maxHeartbeats 2000000 in
theorem rp_m_loop (s t : ByteArray) (w : World) (hs : s.size ≤ maxLen) (h1 : 0 < s.size) (h2 : (s[0].toNat : Int) = 45) (T : s.extract 1 s.size = t) (ts : t.size < s.size) (h0 : t.size ≤ 19) (h3 : 0 < t.size) (h4 : ¬ (t[0].toNat : Int) = 48) (h5 : t.toList ≠ []) (h6 : t.toList.isEmpty = false) (E : Hid (ps s.data.toList = cap (rl t.data.toList 0))) (N : Hid (∀ v, rl t.data.toList 0 = some v → 1 ≤ v)) :
    Calls Tryd.prog 6 #[.string s] w fun e w' => e = .returned (.tuple #[.int .i64 (ps s.data.toList).1, .bool (ps s.data.toList).2]) ∧ w = w' := by
  unfold maxLen at hs
  go_enter Tryd.func6, Tryd.ntmps6
  go_wp2
  go_loop [6, 7] (fun n i => ∃ k m : Nat, k ≤ t.size ∧ i = .int .i64 k ∧ n = .int .u64 m ∧ m < 10 ^ k ∧ rl t.data.toList 0 = rl (t.data.toList.drop k) m) (fun _ i => t.size - (intOf i).toNat)
  case atStart => exact ⟨0, 0, Nat.zero_le _, rfl, rfl, by decide, rfl⟩
  case round =>
    obtain ⟨k, m, hk, rfl, rfl, hm, hr⟩ := hrel
    have HR := Lib.hid hr
    clear hr
    by_cases hlt : k < t.size
    · have HD : Hid (t.data.toList.drop k = t[k] :: t.data.toList.drop (k + 1)) := drop_cons t k hlt
      have mb : m ≤ 999999999999999999 := by
        have := Nat.pow_le_pow_right (show 0 < 10 by decide) (show k ≤ 18 by omega)
        omega
      have HM := Lib.hid hm
      clear hm
      by_cases c1 : (t[k].toNat : Int) < 48
      · have b1 : decide ((t[k].toNat : Int) < 48) = true := by simpa using c1
        go_wp2
        all_goals go_ret2
        all_goals exact ⟨tup2 (by rw [E.out, HR.out, HD.out, rl, if_pos (by omega)]; rfl) (by rw [E.out, HR.out, HD.out, rl, if_pos (by omega)]; rfl), rfl⟩
      · by_cases c2 : (57 : Int) < (t[k].toNat : Int)
        · have b1 : decide ((t[k].toNat : Int) < 48) = false := by simpa using c1
          have b2 : decide ((57 : Int) < (t[k].toNat : Int)) = true := by simpa using c2
          go_wp2
          all_goals go_ret2
          all_goals exact ⟨tup2 (by rw [E.out, HR.out, HD.out, rl, if_pos (by omega)]; rfl) (by rw [E.out, HR.out, HD.out, rl, if_pos (by omega)]; rfl), rfl⟩
        · have b1 : decide ((t[k].toNat : Int) < 48) = false := by simpa using c1
          have b2 : decide ((57 : Int) < (t[k].toNat : Int)) = false := by simpa using c2
          have d1 : 48 ≤ (t[k].toNat : Int) := by omega
          have d2 : (t[k].toNat : Int) ≤ 57 := by omega
          go_wp2
          all_goals
            go_round
            case rel => exact ⟨k + 1, m * 10 + (t[k].toNat - 48), by omega, by go_num, val_u64 (by omega), by have := HM.out; rw [Nat.pow_succ]; omega, by rw [HR.out, HD.out, rl, if_neg (by omega)]⟩
            case measure => simp [intOf]; omega
    · have HV : Hid (rl t.data.toList 0 = some m) := by
        show rl t.data.toList 0 = some m
        rw [HR.out, drop_none t k (by omega), rl]
      clear hm
      have m1 := N.out m HV.out
      by_cases hv : m ≤ 9223372036854775808
      · go_wp2
        all_goals go_ret2
        all_goals exact ⟨tup2 (by rw [E.out, HV.out, cap_yes hv]; show _ = -(m : Int); omega) (by rw [E.out, HV.out, cap_yes hv]), rfl⟩
      · have hv2 : 9223372036854775808 < m := by omega
        go_wp2
        all_goals go_ret2
        all_goals exact ⟨tup2 (by rw [E.out, HV.out, cap_no hv2]) (by rw [E.out, HV.out, cap_no hv2]), rfl⟩
set_option maxHeartbeats 1000000 in
theorem rp_p_none (s : ByteArray) (w : World) (hs : s.size ≤ maxLen) (h0 : s.size = 0) (E : Hid (ps s.data.toList = (0, false))) :
    Calls Tryd.prog 6 #[.string s] w fun e w' => e = .returned (.tuple #[.int .i64 (ps s.data.toList).1, .bool (ps s.data.toList).2]) ∧ w = w' := by
  unfold maxLen at hs
  obtain rfl := no_bytes h0
  go_enter Tryd.func6, Tryd.ntmps6
  go_wp2
  all_goals go_ret2
  all_goals exact ⟨tup2 (by rw [E.out]) (by rw [E.out]), rfl⟩
set_option maxHeartbeats 1000000 in
theorem rp_p_long (s : ByteArray) (w : World) (hs : s.size ≤ maxLen) (h1 : 0 < s.size) (h2 : ¬ (s[0].toNat : Int) = 45) (h0 : 19 < s.size) (h5 : s.toList ≠ []) (h6 : s.toList.isEmpty = false) (E : Hid (ps s.data.toList = (0, false))) :
    Calls Tryd.prog 6 #[.string s] w fun e w' => e = .returned (.tuple #[.int .i64 (ps s.data.toList).1, .bool (ps s.data.toList).2]) ∧ w = w' := by
  unfold maxLen at hs
  go_enter Tryd.func6, Tryd.ntmps6
  go_wp2
  all_goals go_ret2
  all_goals exact ⟨tup2 (by rw [E.out]) (by rw [E.out]), rfl⟩
set_option maxHeartbeats 1000000 in
theorem rp_p_zero (s : ByteArray) (w : World) (hs : s.size ≤ maxLen) (h1 : 0 < s.size) (h2 : ¬ (s[0].toNat : Int) = 45) (h0 : ¬ 19 < s.size) (h4 : (s[0].toNat : Int) = 48) (h7 : 1 < s.size) (h5 : s.toList ≠ []) (h6 : s.toList.isEmpty = false) (E : Hid (ps s.data.toList = (0, false))) :
    Calls Tryd.prog 6 #[.string s] w fun e w' => e = .returned (.tuple #[.int .i64 (ps s.data.toList).1, .bool (ps s.data.toList).2]) ∧ w = w' := by
  unfold maxLen at hs
  go_enter Tryd.func6, Tryd.ntmps6
  go_wp2
  all_goals go_ret2
  all_goals exact ⟨tup2 (by rw [E.out]) (by rw [E.out]), rfl⟩
set_option maxHeartbeats 2000000 in
theorem rp_p_one (s : ByteArray) (w : World) (hs : s.size ≤ maxLen) (h1 : 0 < s.size) (h2 : ¬ (s[0].toNat : Int) = 45) (h4 : (s[0].toNat : Int) = 48) (h7 : ¬ 1 < s.size) (h0 : s.size ≤ 19) (h5 : s.toList ≠ []) (h6 : s.toList.isEmpty = false) (E : Hid (ps s.data.toList = capP (rl s.data.toList 0))) :
    Calls Tryd.prog 6 #[.string s] w fun e w' => e = .returned (.tuple #[.int .i64 (ps s.data.toList).1, .bool (ps s.data.toList).2]) ∧ w = w' := by
  unfold maxLen at hs
  go_enter Tryd.func6, Tryd.ntmps6
  go_wp2
  go_loop [6, 7] (fun n i => ∃ k m : Nat, k ≤ s.size ∧ i = .int .i64 k ∧ n = .int .u64 m ∧ m < 10 ^ k ∧ rl s.data.toList 0 = rl (s.data.toList.drop k) m) (fun _ i => s.size - (intOf i).toNat)
  case atStart => exact ⟨0, 0, Nat.zero_le _, rfl, rfl, by decide, rfl⟩
  case round =>
    obtain ⟨k, m, hk, rfl, rfl, hm, hr⟩ := hrel
    have HR := Lib.hid hr
    clear hr
    by_cases hlt : k < s.size
    · have HD : Hid (s.data.toList.drop k = s[k] :: s.data.toList.drop (k + 1)) := drop_cons s k hlt
      have mb : m ≤ 999999999999999999 := by
        have := Nat.pow_le_pow_right (show 0 < 10 by decide) (show k ≤ 18 by omega)
        omega
      have HM := Lib.hid hm
      clear hm
      by_cases c1 : (s[k].toNat : Int) < 48
      · have b1 : decide ((s[k].toNat : Int) < 48) = true := by simpa using c1
        go_wp2
        all_goals go_ret2
        all_goals exact ⟨tup2 (by rw [E.out, HR.out, HD.out, rl, if_pos (by omega)]; rfl) (by rw [E.out, HR.out, HD.out, rl, if_pos (by omega)]; rfl), rfl⟩
      · by_cases c2 : (57 : Int) < (s[k].toNat : Int)
        · have b1 : decide ((s[k].toNat : Int) < 48) = false := by simpa using c1
          have b2 : decide ((57 : Int) < (s[k].toNat : Int)) = true := by simpa using c2
          go_wp2
          all_goals go_ret2
          all_goals exact ⟨tup2 (by rw [E.out, HR.out, HD.out, rl, if_pos (by omega)]; rfl) (by rw [E.out, HR.out, HD.out, rl, if_pos (by omega)]; rfl), rfl⟩
        · have b1 : decide ((s[k].toNat : Int) < 48) = false := by simpa using c1
          have b2 : decide ((57 : Int) < (s[k].toNat : Int)) = false := by simpa using c2
          have d1 : 48 ≤ (s[k].toNat : Int) := by omega
          have d2 : (s[k].toNat : Int) ≤ 57 := by omega
          go_wp2
          all_goals
            go_round
            case rel => exact ⟨k + 1, m * 10 + (s[k].toNat - 48), by omega, by go_num, val_u64 (by omega), by have := HM.out; rw [Nat.pow_succ]; omega, by rw [HR.out, HD.out, rl, if_neg (by omega)]⟩
            case measure => simp [intOf]; omega
    · have HV : Hid (rl s.data.toList 0 = some m) := by
        show rl s.data.toList 0 = some m
        rw [HR.out, drop_none s k (by omega), rl]
      clear hm
      by_cases hv : m ≤ 9223372036854775807
      · go_wp2
        all_goals go_ret2
        all_goals exact ⟨tup2 (by rw [E.out, HV.out, capP_yes hv]) (by rw [E.out, HV.out, capP_yes hv]), rfl⟩
      · have hv2 : 9223372036854775807 < m := by omega
        go_wp2
        all_goals go_ret2
        all_goals exact ⟨tup2 (by rw [E.out, HV.out, capP_no hv2]) (by rw [E.out, HV.out, capP_no hv2]), rfl⟩
set_option maxHeartbeats 2000000 in
theorem rp_p_on (s : ByteArray) (w : World) (hs : s.size ≤ maxLen) (h1 : 0 < s.size) (h2 : ¬ (s[0].toNat : Int) = 45) (h4 : ¬ (s[0].toNat : Int) = 48) (h0 : s.size ≤ 19) (h5 : s.toList ≠ []) (h6 : s.toList.isEmpty = false) (E : Hid (ps s.data.toList = capP (rl s.data.toList 0))) :
    Calls Tryd.prog 6 #[.string s] w fun e w' => e = .returned (.tuple #[.int .i64 (ps s.data.toList).1, .bool (ps s.data.toList).2]) ∧ w = w' := by
  unfold maxLen at hs
  go_enter Tryd.func6, Tryd.ntmps6
  go_wp2
  go_loop [6, 7] (fun n i => ∃ k m : Nat, k ≤ s.size ∧ i = .int .i64 k ∧ n = .int .u64 m ∧ m < 10 ^ k ∧ rl s.data.toList 0 = rl (s.data.toList.drop k) m) (fun _ i => s.size - (intOf i).toNat)
  case atStart => exact ⟨0, 0, Nat.zero_le _, rfl, rfl, by decide, rfl⟩
  case round =>
    obtain ⟨k, m, hk, rfl, rfl, hm, hr⟩ := hrel
    have HR := Lib.hid hr
    clear hr
    by_cases hlt : k < s.size
    · have HD : Hid (s.data.toList.drop k = s[k] :: s.data.toList.drop (k + 1)) := drop_cons s k hlt
      have mb : m ≤ 999999999999999999 := by
        have := Nat.pow_le_pow_right (show 0 < 10 by decide) (show k ≤ 18 by omega)
        omega
      have HM := Lib.hid hm
      clear hm
      by_cases c1 : (s[k].toNat : Int) < 48
      · have b1 : decide ((s[k].toNat : Int) < 48) = true := by simpa using c1
        go_wp2
        all_goals go_ret2
        all_goals exact ⟨tup2 (by rw [E.out, HR.out, HD.out, rl, if_pos (by omega)]; rfl) (by rw [E.out, HR.out, HD.out, rl, if_pos (by omega)]; rfl), rfl⟩
      · by_cases c2 : (57 : Int) < (s[k].toNat : Int)
        · have b1 : decide ((s[k].toNat : Int) < 48) = false := by simpa using c1
          have b2 : decide ((57 : Int) < (s[k].toNat : Int)) = true := by simpa using c2
          go_wp2
          all_goals go_ret2
          all_goals exact ⟨tup2 (by rw [E.out, HR.out, HD.out, rl, if_pos (by omega)]; rfl) (by rw [E.out, HR.out, HD.out, rl, if_pos (by omega)]; rfl), rfl⟩
        · have b1 : decide ((s[k].toNat : Int) < 48) = false := by simpa using c1
          have b2 : decide ((57 : Int) < (s[k].toNat : Int)) = false := by simpa using c2
          have d1 : 48 ≤ (s[k].toNat : Int) := by omega
          have d2 : (s[k].toNat : Int) ≤ 57 := by omega
          go_wp2
          all_goals
            go_round
            case rel => exact ⟨k + 1, m * 10 + (s[k].toNat - 48), by omega, by go_num, val_u64 (by omega), by have := HM.out; rw [Nat.pow_succ]; omega, by rw [HR.out, HD.out, rl, if_neg (by omega)]⟩
            case measure => simp [intOf]; omega
    · have HV : Hid (rl s.data.toList 0 = some m) := by
        show rl s.data.toList 0 = some m
        rw [HR.out, drop_none s k (by omega), rl]
      clear hm
      by_cases hv : m ≤ 9223372036854775807
      · go_wp2
        all_goals go_ret2
        all_goals exact ⟨tup2 (by rw [E.out, HV.out, capP_yes hv]) (by rw [E.out, HV.out, capP_yes hv]), rfl⟩
      · have hv2 : 9223372036854775807 < m := by omega
        go_wp2
        all_goals go_ret2
        all_goals exact ⟨tup2 (by rw [E.out, HV.out, capP_no hv2]) (by rw [E.out, HV.out, capP_no hv2]), rfl⟩

theorem rl_long {l : List UInt8} {s : ByteArray} (e : s.data.toList = l) (h : 19 < s.size) (h2 : ¬ (s[0].toNat : Int) = 48) : rl l 0 = none ∨ ∃ v, rl l 0 = some v ∧ 9223372036854775808 < v := by
  have d := drop_cons s 0 (by omega)
  rw [List.drop_zero, e] at d
  cases k : rl l 0 with
  | none => exact Or.inl rfl
  | some v =>
    refine Or.inr ⟨v, rfl, ?_⟩
    have hl : (s.data.toList.drop 1).length = s.size - 1 := by rw [List.length_drop, list_size]
    rw [d, rl] at k
    split at k
    · cases k
    · rename_i c
      have b := rl_big _ _ v 0 k (by omega)
      rw [← e] at b
      have p := Nat.pow_le_pow_right (show 0 < 10 by decide) (show 19 ≤ 0 + (s.data.toList.drop 1).length by omega)
      have : (10 : Nat) ^ 19 = 10000000000000000000 := by decide
      have b' : 10 ^ (0 + (s.data.toList.drop 1).length) ≤ v := b
      omega
theorem rl_one {s : ByteArray} (h : 0 < s.size) (h2 : ¬ (s[0].toNat : Int) = 48) (v : Nat) (k : rl s.data.toList 0 = some v) : 1 ≤ v := by
  have d := drop_cons s 0 h
  rw [List.drop_zero] at d
  rw [d, rl] at k
  split at k
  · cases k
  · rename_i c
    have := rl_ge _ _ v k
    omega
theorem minus_iff {s : ByteArray} (h : 0 < s.size) : (s.data.toList.take 1 = [45]) ↔ ((s[0].toNat : Int) = 45) := first_is h
theorem rparse_any (s : ByteArray) (w : World) (hs : s.size ≤ maxLen) :
    Calls Tryd.prog 6 #[.string s] w fun e w' => e = .returned (.tuple #[.int .i64 (ps s.data.toList).1, .bool (ps s.data.toList).2]) ∧ w = w' := by
  by_cases h0 : s.size = 0
  · exact rp_p_none s w hs h0 (by show ps s.data.toList = (0, false); rw [no_bytes h0]; rfl)
  · have h1 : 0 < s.size := by omega
    have ne := list_nil h1
    have ne' : s.data.toList ≠ [] := by rw [← ByteArray.toList_eq]; exact ne
    have em : s.toList.isEmpty = false := by simpa using ne
    by_cases h2 : (s[0].toNat : Int) = 45
    · have hm1 := (minus_iff h1).2 h2
      obtain ⟨t, T⟩ : ∃ t, s.extract 1 s.size = t := ⟨_, rfl⟩
      have tl : t.data.toList = s.data.toList.drop 1 := by rw [← T]; exact Lib.extract_to_end s 1
      have ts : t.size < s.size := by
        have a := list_size t
        have b := list_size s
        rw [tl, List.length_drop] at a
        omega
      by_cases t0 : t.size = 0
      · exact rp_m_none s t w hs h1 h2 T ts t0 (by show ps s.data.toList = (0, false); rw [ps, if_pos hm1, if_pos (Or.inl (by rw [← tl, no_bytes t0]))])
      · have t1 : 0 < t.size := by omega
        have tne := list_nil t1
        have tne' : t.data.toList ≠ [] := by rw [← ByteArray.toList_eq]; exact tne
        have tem : t.toList.isEmpty = false := by simpa using tne
        by_cases h4 : (t[0].toNat : Int) = 48
        · have e : ps s.data.toList = (0, false) := by
            rw [ps, if_pos hm1, if_pos (Or.inr (by rw [← tl]; exact (head_48 t1).2 h4))]
          by_cases h9 : 19 < t.size
          · exact rp_m_long s t w hs h1 h2 T ts h9 tne tem e
          · exact rp_m_zero s t w hs h1 h2 T ts h9 t1 h4 tne tem e
        · have e : ps s.data.toList = cap (rl t.data.toList 0) := by
            rw [ps, if_pos hm1, ← tl, if_neg, pb_zero]
            rintro (k | k)
            · exact tne' k
            · exact h4 ((head_48 t1).1 k)
          by_cases h9 : 19 < t.size
          · refine rp_m_long s t w hs h1 h2 T ts h9 tne tem ?_
            show ps s.data.toList = (0, false)
            rw [e]
            rcases rl_long rfl h9 h4 with k | ⟨v, k, hv⟩
            · rw [k]; rfl
            · rw [k, cap_no hv]
          · exact rp_m_loop s t w hs h1 h2 T ts (by omega) t1 h4 tne tem e (fun v k => rl_one t1 h4 v k)
    · have hm1 : ¬ s.data.toList.take 1 = [45] := fun k => h2 ((minus_iff h1).1 k)
      by_cases h4 : (s[0].toNat : Int) = 48
      · by_cases h7 : 1 < s.size
        · have e : ps s.data.toList = (0, false) := by
            rw [ps, if_neg hm1, if_pos (Or.inr ⟨(head_48 h1).2 h4, fun k => by have := list_size s; rw [k] at this; simp at this; omega⟩)]
          by_cases h9 : 19 < s.size
          · exact rp_p_long s w hs h1 h2 h9 ne em e
          · exact rp_p_zero s w hs h1 h2 h9 h4 h7 ne em e
        · have l1 : s.data.toList = [48] := by
            have a := (head_48 h1).2 h4
            rw [List.take_of_length_le (by rw [list_size]; omega)] at a
            exact a
          exact rp_p_one s w hs h1 h2 h4 h7 (by omega) ne em (by show ps s.data.toList = capP (rl s.data.toList 0); rw [l1]; decide)
      · have e : ps s.data.toList = capP (rl s.data.toList 0) := by
          rw [ps, if_neg hm1, if_neg, pb_zero, cap_turn]
          rintro (k | k)
          · exact ne' k
          · exact h4 ((head_48 h1).1 k.1)
        by_cases h9 : 19 < s.size
        · refine rp_p_long s w hs h1 h2 h9 ne em ?_
          show ps s.data.toList = (0, false)
          rw [e]
          rcases rl_long rfl h9 h4 with k | ⟨v, k, hv⟩
          · rw [k]; rfl
          · rw [k, capP_no (by omega)]
        · exact rp_p_on s w hs h1 h2 h4 (by omega) ne em e
end Go.Proofs.YtdiedplmgclacaaDoor
