/- The contract of ints.Parse: what it returns for any text; on the way the library's CutPrefix at a minus sign. Memory stays as it was. -/
import Derived.Test.YtgcacpcjlbhniaaDoorParse
import Derived.Lib.Hide
import Derived.Lib.IndexBytes
namespace Go.Proofs.YtgcacpcjlbhniaaDoor
open Go.RowKit
set_option linter.unusedVariables false

/-- Does it begin with a minus sign? -/
def minusB (s : ByteArray) : Bool := (s.extract 0 1).toList == [45]
theorem minus_list (s : ByteArray) : minusB s = (s.data.toList.take 1 == [45]) := by
  rw [minusB, ByteArray.toList_eq]
  obtain ⟨⟨l⟩⟩ := s
  simp
theorem no_bytes {s : ByteArray} (h : s.size = 0) : s = ⟨#[]⟩ := by
  cases s; rename_i d; congr; exact Array.eq_empty_of_size_eq_zero h
theorem minus_none {s : ByteArray} (h : s.size = 0) : minusB s = false := by
  rw [minus_list, no_bytes h]; rfl
set_option maxHeartbeats 400000 in
theorem has_yes (s : ByteArray) (w : World) (hs : s.size ≤ maxLen) (h1 : 1 ≤ s.size) :
    Calls Tryd.prog 37 #[.string s, .string ⟨#[45]⟩] w fun e w' => e = .returned (.bool (minusB s)) ∧ w = w' := by
  unfold maxLen at hs
  go_enter Tryd.func37, Tryd.ntmps37
  go_wp2
  all_goals go_ret
  all_goals exact ⟨rfl, rfl⟩
set_option maxHeartbeats 400000 in
theorem has_no (s : ByteArray) (w : World) (hs : s.size ≤ maxLen) (h1 : s.size = 0) :
    Calls Tryd.prog 37 #[.string s, .string ⟨#[45]⟩] w fun e w' => e = .returned (.bool false) ∧ w = w' := by
  clear hs
  go_enter Tryd.func37, Tryd.ntmps37
  go_wp2
  go_ret
  exact ⟨rfl, rfl⟩
theorem has_any (s : ByteArray) (w : World) (hs : s.size ≤ maxLen) :
    Calls Tryd.prog 37 #[.string s, .string ⟨#[45]⟩] w fun e w' => e = .returned (.bool (minusB s)) ∧ w = w' := by
  by_cases h1 : 1 ≤ s.size
  · exact has_yes s w hs h1
  · rw [minus_none (by omega)]
    exact has_no s w hs (by omega)
set_option maxHeartbeats 400000 in
theorem cut_yes (s t : ByteArray) (w : World) (hs : s.size ≤ maxLen) (h1 : 1 ≤ s.size) (H : Hid (minusB s = true)) (T : Hid (t = s.extract 1 s.size)) :
    Calls Tryd.prog 27 #[.string s, .string ⟨#[45]⟩] w fun e w' => e = .returned (.tuple #[.string t, .bool true]) ∧ w = w' := by
  have hz := hs
  unfold maxLen at hs
  go_enter Tryd.func27, Tryd.ntmps27
  go_wp2_with (go_at_call 37; refine (has_any _ _ hz).mono ?_; rintro e w' ⟨rfl, rfl⟩; rw [H.out])
  go_ret2
  exact ⟨by rw [T.out]; rfl, rfl⟩
set_option maxHeartbeats 400000 in
theorem cut_no (s : ByteArray) (w : World) (hs : s.size ≤ maxLen) (H : Hid (minusB s = false)) :
    Calls Tryd.prog 27 #[.string s, .string ⟨#[45]⟩] w fun e w' => e = .returned (.tuple #[.string s, .bool false]) ∧ w = w' := by
  have hz := hs
  unfold maxLen at hs
  go_enter Tryd.func27, Tryd.ntmps27
  go_wp2_with (go_at_call 37; refine (has_any _ _ hz).mono ?_; rintro e w' ⟨rfl, rfl⟩; rw [H.out])
  go_ret2
  exact ⟨rfl, rfl⟩
set_option maxHeartbeats 400000 in
theorem scut_yes (s t : ByteArray) (w : World) (hs : s.size ≤ maxLen) (h1 : 1 ≤ s.size) (H : Hid (minusB s = true)) (T : Hid (t = s.extract 1 s.size)) :
    Calls Tryd.prog 19 #[.string s, .string ⟨#[45]⟩] w fun e w' => e = .returned (.tuple #[.string t, .bool true]) ∧ w = w' := by
  go_enter Tryd.func19, Tryd.ntmps19
  go_wp2_with (go_at_call 27; refine (cut_yes _ _ _ hs h1 H T).mono ?_; rintro e w' ⟨rfl, rfl⟩)
  go_ret2
  exact ⟨rfl, rfl⟩
set_option maxHeartbeats 400000 in
theorem scut_no (s : ByteArray) (w : World) (hs : s.size ≤ maxLen) (H : Hid (minusB s = false)) :
    Calls Tryd.prog 19 #[.string s, .string ⟨#[45]⟩] w fun e w' => e = .returned (.tuple #[.string s, .bool false]) ∧ w = w' := by
  go_enter Tryd.func19, Tryd.ntmps19
  go_wp2_with (go_at_call 27; refine (cut_no _ _ hs H).mono ?_; rintro e w' ⟨rfl, rfl⟩)
  go_ret2
  exact ⟨rfl, rfl⟩


/-- What Parse returns, over the text's bytes. -/
def ps (l : List UInt8) : Int × Bool :=
  if l.take 1 = [45] then (if l.drop 1 = [] ∨ (l.drop 1).take 1 = [48] then (0, false) else pb (l.drop 1) 0)
  else if l = [] ∨ (l.take 1 = [48] ∧ l ≠ [48]) then (0, false)
  else if (pb l 0).2 = true then (subV 0 (pb l 0).1, subB 0 (pb l 0).1) else pb l 0
theorem list_size (s : ByteArray) : s.data.toList.length = s.size := by simp
theorem list_nil {s : ByteArray} (h : 0 < s.size) : s.toList ≠ [] := by
  rw [ByteArray.toList_eq]; intro k; have := list_size s; rw [k] at this; simp at this; omega
theorem take_one {s : ByteArray} (h : 0 < s.size) : s.data.toList.take 1 = [s[0]] := by
  have e := drop_cons s 0 h
  rw [List.drop_zero] at e
  rw [e]; rfl
theorem first_is {s : ByteArray} (h : 0 < s.size) {c : UInt8} : s.data.toList.take 1 = [c] ↔ ((s[0].toNat : Int) = (c.toNat : Int)) := by
  rw [take_one h]
  constructor
  · intro k; injection k with k; rw [k]
  · intro k
    have : s[0] = c := UInt8.toNat_inj.1 (by omega)
    rw [this]
theorem pb_wf (l : List UInt8) (n : Int) (h : (Lit.int .i64 n).wf = true) : (Lit.int .i64 (pb l n).1).wf = true := by
  induction l generalizing n with
  | nil => exact h
  | cons c r ih =>
    rw [pb]
    split
    · decide
    · split
      · decide
      · split
        · decide
        · exact ih _ (fitV_wf _)
theorem ps_wf (l : List UInt8) : (Lit.int .i64 (ps l).1).wf = true := by
  unfold ps
  repeat' split
  all_goals first | decide | exact pb_wf _ _ (by decide) | exact fitV_wf _

set_option maxHeartbeats 400000 in
theorem parse_m_none (s t : ByteArray) (w : World) (hs : s.size ≤ maxLen) (h1 : 1 ≤ s.size) (H : Hid (minusB s = true)) (T : Hid (t = s.extract 1 s.size)) (ht : t.size ≤ maxLen) (h0 : t.size = 0) :
    Calls Tryd.prog 13 #[.string s] w fun e w' => e = .returned (.tuple #[.int .i64 0, .bool false]) ∧ w = w' := by
  have z : (Lit.int .i64 0).wf = true := by decide
  obtain rfl := no_bytes h0
  go_enter Tryd.func13, Tryd.ntmps13
  go_wp2_with (first | (go_at_call 19; refine (scut_yes _ _ _ hs h1 H T).mono ?_; rintro e w' ⟨rfl, rfl⟩) | (go_at_call 20; refine (below_any _ _ ht).mono ?_; rintro e w' ⟨rfl, rfl⟩; rw [P1.out, P2.out]) | (go_at_call 21; refine (sub_any _ _ z nw _).mono ?_; rintro e w' ⟨rfl, rfl⟩))
  all_goals go_ret2
  all_goals exact ⟨rfl, rfl⟩
set_option maxHeartbeats 400000 in
theorem parse_m_zero (s t : ByteArray) (w : World) (hs : s.size ≤ maxLen) (h1 : 1 ≤ s.size) (H : Hid (minusB s = true)) (T : Hid (t = s.extract 1 s.size)) (ht : t.size ≤ maxLen) (h2 : 0 < t.size) (h3 : (t[0].toNat : Int) = 48) (h4 : (!s.toList == [48]) = true) (h5 : t.toList ≠ []) :
    Calls Tryd.prog 13 #[.string s] w fun e w' => e = .returned (.tuple #[.int .i64 0, .bool false]) ∧ w = w' := by
  go_enter Tryd.func13, Tryd.ntmps13
  go_wp2_with (first | (go_at_call 19; refine (scut_yes _ _ _ hs h1 H T).mono ?_; rintro e w' ⟨rfl, rfl⟩) | (go_at_call 20; refine (below_any _ _ ht).mono ?_; rintro e w' ⟨rfl, rfl⟩; rw [P1.out, P2.out]) | (go_at_call 21; refine (sub_any _ _ z nw _).mono ?_; rintro e w' ⟨rfl, rfl⟩))
  all_goals go_ret2
  all_goals exact ⟨rfl, rfl⟩
set_option maxHeartbeats 400000 in
theorem parse_m_on (s t : ByteArray) (w : World) (hs : s.size ≤ maxLen) (h1 : 1 ≤ s.size) (H : Hid (minusB s = true)) (T : Hid (t = s.extract 1 s.size)) (ht : t.size ≤ maxLen) (n : Int) (b : Bool) (P1 : Hid ((pb t.data.toList 0).1 = n)) (P2 : Hid ((pb t.data.toList 0).2 = b)) (h2 : 0 < t.size) (h3 : ¬ (t[0].toNat : Int) = 48) (h5 : t.toList ≠ []) (h6 : t.toList.isEmpty = false) :
    Calls Tryd.prog 13 #[.string s] w fun e w' => e = .returned (.tuple #[.int .i64 n, .bool b]) ∧ w = w' := by
  go_enter Tryd.func13, Tryd.ntmps13
  go_wp2_with (first | (go_at_call 19; refine (scut_yes _ _ _ hs h1 H T).mono ?_; rintro e w' ⟨rfl, rfl⟩) | (go_at_call 20; refine (below_any _ _ ht).mono ?_; rintro e w' ⟨rfl, rfl⟩; rw [P1.out, P2.out]) | (go_at_call 21; refine (sub_any _ _ z nw _).mono ?_; rintro e w' ⟨rfl, rfl⟩))
  all_goals go_ret2
  all_goals exact ⟨rfl, rfl⟩
set_option maxHeartbeats 400000 in
theorem parse_p_none (s : ByteArray) (w : World) (hs : s.size ≤ maxLen) (H : Hid (minusB s = false)) (h0 : s.size = 0) :
    Calls Tryd.prog 13 #[.string s] w fun e w' => e = .returned (.tuple #[.int .i64 0, .bool false]) ∧ w = w' := by
  have z : (Lit.int .i64 0).wf = true := by decide
  obtain rfl := no_bytes h0
  go_enter Tryd.func13, Tryd.ntmps13
  go_wp2_with (first | (go_at_call 19; refine (scut_no _ _ hs H).mono ?_; rintro e w' ⟨rfl, rfl⟩) | (go_at_call 20; refine (below_any _ _ hs).mono ?_; rintro e w' ⟨rfl, rfl⟩; rw [P1.out, P2.out]) | (go_at_call 21; refine (sub_any _ _ z nw _).mono ?_; rintro e w' ⟨rfl, rfl⟩))
  all_goals go_ret2
  all_goals exact ⟨rfl, rfl⟩
set_option maxHeartbeats 400000 in
theorem parse_p_zero (s : ByteArray) (w : World) (hs : s.size ≤ maxLen) (H : Hid (minusB s = false)) (h2 : 0 < s.size) (h3 : (s[0].toNat : Int) = 48) (h4 : (!s.toList == [48]) = true) (h5 : s.toList ≠ []) :
    Calls Tryd.prog 13 #[.string s] w fun e w' => e = .returned (.tuple #[.int .i64 0, .bool false]) ∧ w = w' := by
  go_enter Tryd.func13, Tryd.ntmps13
  go_wp2_with (first | (go_at_call 19; refine (scut_no _ _ hs H).mono ?_; rintro e w' ⟨rfl, rfl⟩) | (go_at_call 20; refine (below_any _ _ hs).mono ?_; rintro e w' ⟨rfl, rfl⟩; rw [P1.out, P2.out]) | (go_at_call 21; refine (sub_any _ _ z nw _).mono ?_; rintro e w' ⟨rfl, rfl⟩))
  all_goals go_ret2
  all_goals exact ⟨rfl, rfl⟩
set_option maxHeartbeats 400000 in
theorem parse_p_one (s : ByteArray) (w : World) (hs : s.size ≤ maxLen) (H : Hid (minusB s = false)) (n : Int) (P1 : Hid ((pb s.data.toList 0).1 = n)) (P2 : Hid ((pb s.data.toList 0).2 = true)) (nw : (Lit.int .i64 n).wf = true) (h2 : 0 < s.size) (h3 : (s[0].toNat : Int) = 48) (h4 : (!s.toList == [48]) = false) (h5 : s.toList ≠ []) (h6 : s.toList.isEmpty = false) :
    Calls Tryd.prog 13 #[.string s] w fun e w' => e = .returned (.tuple #[.int .i64 (subV 0 n), .bool (subB 0 n)]) ∧ w = w' := by
  have z : (Lit.int .i64 0).wf = true := by decide
  go_enter Tryd.func13, Tryd.ntmps13
  go_wp2_with (first | (go_at_call 19; refine (scut_no _ _ hs H).mono ?_; rintro e w' ⟨rfl, rfl⟩) | (go_at_call 20; refine (below_any _ _ hs).mono ?_; rintro e w' ⟨rfl, rfl⟩; rw [P1.out, P2.out]) | (go_at_call 21; refine (sub_any _ _ z nw _).mono ?_; rintro e w' ⟨rfl, rfl⟩))
  all_goals go_ret2
  all_goals exact ⟨rfl, rfl⟩
set_option maxHeartbeats 400000 in
theorem parse_p_on (s : ByteArray) (w : World) (hs : s.size ≤ maxLen) (H : Hid (minusB s = false)) (n : Int) (P1 : Hid ((pb s.data.toList 0).1 = n)) (P2 : Hid ((pb s.data.toList 0).2 = true)) (nw : (Lit.int .i64 n).wf = true) (h2 : 0 < s.size) (h3 : ¬ (s[0].toNat : Int) = 48) (h5 : s.toList ≠ []) (h6 : s.toList.isEmpty = false) :
    Calls Tryd.prog 13 #[.string s] w fun e w' => e = .returned (.tuple #[.int .i64 (subV 0 n), .bool (subB 0 n)]) ∧ w = w' := by
  have z : (Lit.int .i64 0).wf = true := by decide
  go_enter Tryd.func13, Tryd.ntmps13
  go_wp2_with (first | (go_at_call 19; refine (scut_no _ _ hs H).mono ?_; rintro e w' ⟨rfl, rfl⟩) | (go_at_call 20; refine (below_any _ _ hs).mono ?_; rintro e w' ⟨rfl, rfl⟩; rw [P1.out, P2.out]) | (go_at_call 21; refine (sub_any _ _ z nw _).mono ?_; rintro e w' ⟨rfl, rfl⟩))
  all_goals go_ret2
  all_goals exact ⟨rfl, rfl⟩
set_option maxHeartbeats 400000 in
theorem parse_p_off (s : ByteArray) (w : World) (hs : s.size ≤ maxLen) (H : Hid (minusB s = false)) (n : Int) (P1 : Hid ((pb s.data.toList 0).1 = n)) (P2 : Hid ((pb s.data.toList 0).2 = false)) (h2 : 0 < s.size) (h3 : ¬ (s[0].toNat : Int) = 48) (h5 : s.toList ≠ []) (h6 : s.toList.isEmpty = false) :
    Calls Tryd.prog 13 #[.string s] w fun e w' => e = .returned (.tuple #[.int .i64 n, .bool false]) ∧ w = w' := by
  have z : (Lit.int .i64 0).wf = true := by decide
  go_enter Tryd.func13, Tryd.ntmps13
  go_wp2_with (first | (go_at_call 19; refine (scut_no _ _ hs H).mono ?_; rintro e w' ⟨rfl, rfl⟩) | (go_at_call 20; refine (below_any _ _ hs).mono ?_; rintro e w' ⟨rfl, rfl⟩; rw [P1.out, P2.out]) | (go_at_call 21; refine (sub_any _ _ z nw _).mono ?_; rintro e w' ⟨rfl, rfl⟩))
  all_goals go_ret2
  all_goals exact ⟨rfl, rfl⟩

theorem head_48 {s : ByteArray} (h : 0 < s.size) : (s.data.toList.take 1 = [48]) ↔ ((s[0].toNat : Int) = 48) := first_is h
theorem parse_any (s : ByteArray) (w : World) (hs : s.size ≤ maxLen) :
    Calls Tryd.prog 13 #[.string s] w fun e w' => e = .returned (.tuple #[.int .i64 (ps s.data.toList).1, .bool (ps s.data.toList).2]) ∧ w = w' := by
  cases hm : minusB s
  · have hm1 : ¬ s.data.toList.take 1 = [45] := by rw [minus_list] at hm; simpa using hm
    by_cases h0 : s.size = 0
    · have e : ps s.data.toList = (0, false) := by rw [no_bytes h0]; rfl
      rw [e]
      exact parse_p_none s w hs hm h0
    · have h2 : 0 < s.size := by omega
      have ne := list_nil h2
      have ne' : s.data.toList ≠ [] := by rw [← ByteArray.toList_eq]; exact ne
      have em : s.toList.isEmpty = false := by simpa using ne
      by_cases h3 : (s[0].toNat : Int) = 48
      · by_cases h4 : s.toList = [48]
        · have l4 : s.data.toList = [48] := by rw [← ByteArray.toList_eq]; exact h4
          have e : ps s.data.toList = (subV 0 (pb s.data.toList 0).1, subB 0 (pb s.data.toList 0).1) := by rw [l4]; decide
          rw [e]
          exact parse_p_one s w hs hm _ rfl (by show (pb s.data.toList 0).2 = true; rw [l4]; decide) (pb_wf _ _ (by decide)) h2 h3 (by rw [h4]; rfl) ne em
        · have e : ps s.data.toList = (0, false) := by
            rw [ps, if_neg hm1, if_pos (Or.inr ⟨(head_48 h2).2 h3, by rw [← ByteArray.toList_eq]; exact h4⟩)]
          rw [e]
          exact parse_p_zero s w hs hm h2 h3 (by simpa using h4) ne
      · have e : ps s.data.toList = if (pb s.data.toList 0).2 = true then (subV 0 (pb s.data.toList 0).1, subB 0 (pb s.data.toList 0).1) else pb s.data.toList 0 := by
          rw [ps, if_neg hm1, if_neg]
          rintro (k | k)
          · exact ne' k
          · exact h3 ((head_48 h2).1 k.1)
        cases hb : (pb s.data.toList 0).2
        · have e' : ps s.data.toList = ((pb s.data.toList 0).1, false) := by
            rw [e, if_neg (by rw [hb]; decide), ← hb]
          rw [e']
          exact parse_p_off s w hs hm _ rfl hb h2 h3 ne em
        · rw [e, if_pos hb]
          exact parse_p_on s w hs hm _ rfl hb (pb_wf _ _ (by decide)) h2 h3 ne em
  · have h1 : 1 ≤ s.size := by
      by_cases k : s.size = 0
      · rw [minus_none k] at hm; cases hm
      · omega
    have hm1 : s.data.toList.take 1 = [45] := by rw [minus_list] at hm; simpa using hm
    obtain ⟨t, T⟩ : ∃ t, t = s.extract 1 s.size := ⟨_, rfl⟩
    have tl : t.data.toList = s.data.toList.drop 1 := by rw [T]; exact Lib.extract_to_end s 1
    have ts : t.size ≤ s.size := by
      have a := list_size t
      have b := list_size s
      rw [tl, List.length_drop] at a
      omega
    have ht : t.size ≤ maxLen := Nat.le_trans ts hs
    by_cases h0 : t.size = 0
    · have e : ps s.data.toList = (0, false) := by
        rw [ps, if_pos hm1, if_pos (Or.inl (by rw [← tl, no_bytes h0]))]
      rw [e]
      exact parse_m_none s t w hs h1 hm T ht h0
    · have h2 : 0 < t.size := by omega
      have ne := list_nil h2
      have em : t.toList.isEmpty = false := by simpa using ne
      have ne' : t.data.toList ≠ [] := by rw [← ByteArray.toList_eq]; exact ne
      by_cases h3 : (t[0].toNat : Int) = 48
      · have e : ps s.data.toList = (0, false) := by
          rw [ps, if_pos hm1, if_pos (Or.inr (by rw [← tl]; exact (head_48 h2).2 h3))]
        have h4 : s.toList ≠ [48] := by
          rw [ByteArray.toList_eq]; intro k; rw [k] at hm1; revert hm1; decide
        rw [e]
        exact parse_m_zero s t w hs h1 hm T ht h2 h3 (by simpa using h4) ne
      · have e : ps s.data.toList = pb t.data.toList 0 := by
          rw [ps, if_pos hm1, tl, if_neg]
          rintro (k | k)
          · exact ne' (by rw [tl, k])
          · rw [← tl] at k; exact h3 ((head_48 h2).1 k)
        rw [e]
        exact parse_m_on s t w hs h1 hm T ht _ _ rfl rfl h2 h3 ne em

end Go.Proofs.YtgcacpcjlbhniaaDoor
