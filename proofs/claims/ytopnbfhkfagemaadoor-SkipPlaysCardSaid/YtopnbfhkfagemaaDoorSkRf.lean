/- The document's own list of names with scores: what comes above, ranks, places. -/
import Derived.Test.YtopnbfhkfagemaaDoorSkRow
import Derived.BigQuiet
namespace Go.Proofs.YtopnbfhkfagemaaDoor
open Go.RowKit
set_option linter.unusedVariables false
theorem gt_is (s t : ByteArray) : (!Op.bytesLess s.toList t.toList && !s.toList == t.toList) = decide (t.data.toList < s.data.toList) := by
  rw [less_is, ByteArray.toList_eq, ByteArray.toList_eq]
  by_cases h : t.data.toList < s.data.toList
  · have h1 : ¬ s.data.toList < t.data.toList := fun k => List.lt_irrefl _ (List.lt_trans h k)
    have h2 : ¬ s.data.toList = t.data.toList := fun k => by rw [k] at h; exact List.lt_irrefl _ h
    rw [decide_eq_true h, decide_eq_false h1, beq_eq_false_iff_ne.2 h2]; rfl
  · rw [decide_eq_false h]
    by_cases k : s.data.toList < t.data.toList
    · rw [decide_eq_true k]; rfl
    · have : s.data.toList = t.data.toList := List.le_antisymm (List.not_lt.1 h) (List.not_lt.1 k)
      rw [this, beq_self_eq_true]; simp
set_option maxRecDepth 20000 in
set_option maxHeartbeats 2000000 in
theorem above_any (w : World) (s t : ByteArray) (v n : Int) :
    Calls Tryd.prog 25 #[.agg #[.string s, .int .i64 v], .agg #[.string t, .int .i64 n]] w fun e w' => e = .returned (.bool (decide (SkM.lt (t.data.toList, n) (s.data.toList, v)))) ∧ Below w.heap.size w w' := by
  have lss := gt_is s t
  have al : Below w.heap.size w ((w.alloc (.cells #[.string s, .int .i64 v] 30)).alloc (.cells #[.string t, .int .i64 n] 30)) := ((Below.refl _ w).alloc (Nat.le_refl _) _).alloc (by simp) _
  have AL := Lib.hid al
  clear al
  rcases Int.lt_trichotomy n v with h | h | h
  · have e : decide (SkM.lt (t.data.toList, n) (s.data.toList, v)) = true := decide_eq_true (.inl h)
    rw [e]
    clear e lss
    go_enter Tryd.func25, Tryd.ntmps25
    go_wp2_with fail
    go_ret
    exact ⟨rfl, AL.out⟩
  · subst h
    have e : decide (SkM.lt (t.data.toList, n) (s.data.toList, n)) = decide (t.data.toList < s.data.toList) := by unfold SkM.lt; simp
    rw [e]
    obtain ⟨d, hd⟩ : ∃ d : Bool, decide (t.data.toList < s.data.toList) = d := ⟨_, rfl⟩
    rw [hd] at lss ⊢
    clear hd e
    go_enter Tryd.func25, Tryd.ntmps25
    go_wp2_with fail
    go_ret
    exact ⟨rfl, AL.out⟩
  · have e : decide (SkM.lt (t.data.toList, n) (s.data.toList, v)) = false := decide_eq_false (fun k => by rcases k with k | ⟨k, -⟩ <;> simp only at k <;> omega)
    rw [e]
    have h2 : v ≤ n := by omega
    have h3 : ¬ v = n := by omega
    clear e lss
    go_enter Tryd.func25, Tryd.ntmps25
    go_wp2_with fail
    go_ret
    exact ⟨congrArg (fun x => Ending.returned (Value.bool x)) (decide_eq_false (by omega)), AL.out⟩
theorem rank_found {l : List SkM.E} {k : Nat} (hk : k < l.length) {s : List UInt8} (h : ∀ j (hj : j < l.length), j < k → l[j].1 ≠ s) (e : l[k].1 = s) : SkM.rank l s = k ∧ (SkM.get l s).isSome = true := by
  have el : l = l.take k ++ l[k] :: l.drop (k + 1) := by
    have := List.take_append_drop k l
    rw [List.drop_eq_getElem_cons hk] at this
    exact this.symm
  have n : ∀ y ∈ l.take k, (y.1 != s) = true := fun y hy => by
    obtain ⟨j, hj, rfl⟩ := List.getElem_of_mem hy
    rw [List.length_take] at hj
    rw [List.getElem_take]
    simpa using h j (by omega) (by omega)
  constructor
  · obtain ⟨y, hy⟩ : ∃ y, l[k] = y := ⟨_, rfl⟩
    rw [hy] at el e
    unfold SkM.rank
    rw [show l.takeWhile (fun a => a.1 != s) = (l.take k ++ y :: l.drop (k + 1)).takeWhile (fun a => a.1 != s) from congrArg _ el]
    rw [List.takeWhile_append_of_pos n, List.takeWhile_cons, if_neg (by simp [e]), List.append_nil, List.length_take]
    omega
  · cases g : SkM.get l s with
    | some v => rfl
    | none => exact absurd e (SkM.get_none.1 g _ (List.getElem_mem hk))
theorem rank_gone {l : List SkM.E} {s : List UInt8} (h : ∀ j (hj : j < l.length), l[j].1 ≠ s) : SkM.get l s = none := SkM.get_none.2 fun y hy => by
  obtain ⟨j, hj, rfl⟩ := List.getElem_of_mem hy
  exact h j hj
set_option maxRecDepth 20000 in
set_option maxHeartbeats 2000000 in
theorem rank_ref (w : World) (v : Value) (l : List SkM.E) (h : SList w v l) (h9 : l.length ≤ 1000) (s : ByteArray) :
    Calls Tryd.prog 29 #[v, .string s] w fun e w' => e = .returned (.int .i64 (if (SkM.get l s.data.toList).isSome then (SkM.rank l s.data.toList : Int) else -1)) ∧ w' = w := by
  obtain ⟨A, c, rfl, -, -, hr⟩ := h
  have HR := Lib.hid hr
  obtain ⟨n, hn⟩ : ∃ n, l.length = n := ⟨_, rfl⟩
  have HN := Lib.hid hn
  rw [hn] at h9 ⊢
  have n9 : (n : Int) ≤ 1000 := by omega
  have n0 : (0 : Int) ≤ (n : Int) := by omega
  obtain ⟨R, hR⟩ : ∃ R : Int, (if (SkM.get l s.data.toList).isSome then (SkM.rank l s.data.toList : Int) else -1) = R := ⟨_, rfl⟩
  have RR := Lib.hid hR
  rw [hR]
  clear hr hn h9 hR
  go_enter Tryd.func29, Tryd.ntmps29
  go_wp2_with fail
  go_loop [5] (fun i => ∃ k : Nat, k ≤ n ∧ i = .int .i64 (k : Int) ∧ ∀ j (hj : j < l.length), j < k → l[j].1 ≠ s.data.toList) (fun i => n - (intOf i).toNat)
  case atStart => exact ⟨0, Nat.zero_le _, rfl, fun j hj h => absurd h (Nat.not_lt_zero _)⟩
  case round =>
    obtain ⟨k, hk, rfl, hb⟩ := hrel
    have HB := Lib.hid hb
    have k0 : (0 : Int) ≤ (k : Int) := by omega
    clear hb
    by_cases hlt : k < n
    · have k1 : (k : Int) < (n : Int) := by omega
      have hkl : k < l.length := by rw [HN.out]; exact hlt
      obtain ⟨a, rfl, ha, e0, -⟩ := HR.out k hkl
      obtain ⟨nm, hnm⟩ : ∃ nm : ByteArray, (⟨l[k].1.toArray⟩ : ByteArray) = nm := ⟨_, rfl⟩
      have NM : Hid (nm.data.toList = l[k].1) := by show nm.data.toList = l[k].1; rw [← hnm]
      rw [hnm] at e0
      have HKL := Lib.hid hkl
      have HLT := Lib.hid hlt
      clear hnm ha hlt
      cases e : (nm.toList == s.toList)
      · have e' : nm.toList ≠ s.toList := beq_eq_false_iff_ne.1 e
        have E := Lib.hid e'
        clear e'
        go_wp2_with fail
        go_round
        case rel => exact ⟨k + 1, HLT.out, by go_num, fun j hj hjk => by
          by_cases x : j = k
          · subst x; rw [← NM.out, ← ByteArray.toList_eq, ← ByteArray.toList_eq]; exact E.out
          · exact HB.out j hj (by omega)⟩
        case measure => have := HLT.out; simp [intOf]; omega
      · have e' : nm.toList = s.toList := beq_iff_eq.1 e
        have es : l[k].1 = s.data.toList := NM.out.symm.trans (by rw [← ByteArray.toList_eq, ← ByteArray.toList_eq]; exact e')
        have P := Lib.hid (rank_found HKL.out HB.out es)
        clear e' es
        go_wp2_with fail
        go_ret
        exact ⟨by have := RR.out; rw [if_pos P.out.2, P.out.1] at this; rw [← this]; rfl, rfl⟩
    · have k1 : (n : Int) ≤ (k : Int) := by omega
      have P := Lib.hid (rank_gone (l := l) (s := s.data.toList) fun j hj => HB.out j hj (by have := HN.out; omega))
      clear hlt hk
      go_wp2_with fail
      go_ret
      exact ⟨by have := RR.out; rw [P.out] at this; rw [← this]; rfl, rfl⟩
def there (n : Nat) (i : Int) : Bool := decide (0 ≤ idx n i ∧ idx n i < (n : Int))
set_option maxHeartbeats 1000000 in
theorem rplace_any (w : World) (n : Nat) (hn : n ≤ 1048576) (i : Int) (i0 : -9223372036854775808 ≤ i) (i1 : i ≤ 9223372036854775807) :
    Calls Tryd.prog 30 #[.int .i64 (n : Int), .int .i64 i] w fun e w' => e = .returned (.tuple #[.int .i64 (idx n i), .bool (there n i)]) ∧ w' = w := by
  have n0 : (0 : Int) ≤ (n : Int) := by omega
  have n9 : (n : Int) ≤ 1048576 := by omega
  by_cases h : i < 0
  · obtain ⟨f, ef⟩ : ∃ f, f = i + (n : Int) := ⟨_, rfl⟩
    have wf : IntKind.i64.wrap (i + (n : Int)) = f := by rw [IntKind.wrap_i64, ef]; omega
    have fr : idx n i = f := by unfold idx; rw [if_pos h, ef]; omega
    unfold there
    rw [fr]
    clear ef fr
    by_cases f0 : 0 ≤ f
    · by_cases f1 : f < (n : Int)
      · rw [decide_eq_true ⟨f0, f1⟩]
        go_enter Tryd.func30, Tryd.ntmps30
        go_wp2_with fail
        go_ret2
        exact ⟨by simp [*], rfl⟩
      · have f1' : (n : Int) ≤ f := by omega
        rw [decide_eq_false (fun e => f1 e.2)]
        go_enter Tryd.func30, Tryd.ntmps30
        go_wp2_with fail
        go_ret2
        exact ⟨by simp [*], rfl⟩
    · have f0' : f < 0 := by omega
      rw [decide_eq_false (fun e => f0 e.1)]
      go_enter Tryd.func30, Tryd.ntmps30
      go_wp2_with fail
      go_ret2
      exact ⟨by simp [*], rfl⟩
  · have h' : 0 ≤ i := by omega
    have fr : idx n i = i := by unfold idx; rw [if_neg h]
    unfold there
    rw [fr]
    clear fr
    by_cases f1 : i < (n : Int)
    · rw [decide_eq_true ⟨h', f1⟩]
      go_enter Tryd.func30, Tryd.ntmps30
      go_wp2_with fail
      go_ret2
      exact ⟨by simp [*], rfl⟩
    · have f1' : (n : Int) ≤ i := by omega
      rw [decide_eq_false (fun e => f1 e.2)]
      go_enter Tryd.func30, Tryd.ntmps30
      go_wp2_with fail
      go_ret2
      exact ⟨by simp [*], rfl⟩
/-- The range that is cut: from, to (not with it). -/
def span (n : Nat) (i j : Int) : Nat × Nat :=
  if min (idx n j) ((n : Int) - 1) < max (idx n i) 0 then (0, 0) else ((max (idx n i) 0).toNat, (min (idx n j) ((n : Int) - 1)).toNat + 1)
theorem span_le (n : Nat) (i j : Int) : (span n i j).1 ≤ (span n i j).2 ∧ (span n i j).2 ≤ n := by
  unfold span
  split
  · exact ⟨Nat.le_refl _, Nat.zero_le _⟩
  · refine ⟨?_, ?_⟩
    · show (max (idx n i) 0).toNat ≤ (min (idx n j) ((n : Int) - 1)).toNat + 1
      omega
    · show (min (idx n j) ((n : Int) - 1)).toNat + 1 ≤ n
      omega
theorem cut_span (l : List SkM.E) (i j : Int) : SkM.cut l i j = (l.drop (span l.length i j).1).take ((span l.length i j).2 - (span l.length i j).1) := by
  unfold SkM.cut span
  split
  · simp
  · show _ = List.take ((min (idx l.length j) ((l.length : Int) - 1)).toNat + 1 - (max (idx l.length i) 0).toNat) (l.drop (max (idx l.length i) 0).toNat)
    congr 1
    omega
theorem span_is (n : Nat) (i j a b : Int) (ha : max (idx n i) 0 = a) (hb : min (idx n j) ((n : Int) - 1) = b) : ((span n i j).1 : Int) = (if b < a then 0 else a) ∧ ((span n i j).2 : Int) = (if b < a then 0 else b + 1) := by
  unfold span
  rw [ha, hb]
  split
  · exact ⟨rfl, rfl⟩
  · refine ⟨?_, ?_⟩
    · show ((a.toNat : Nat) : Int) = a
      omega
    · show ((b.toNat + 1 : Nat) : Int) = b + 1
      omega
set_option maxHeartbeats 2000000 in
theorem rplaces_any (w : World) (n : Nat) (hn : n ≤ 1048576) (i j : Int) (i0 : -9223372036854775808 ≤ i) (i1 : i ≤ 9223372036854775807) (j0 : -9223372036854775808 ≤ j) (j1 : j ≤ 9223372036854775807) :
    Calls Tryd.prog 31 #[.int .i64 (n : Int), .int .i64 i, .int .i64 j] w fun e w' => e = .returned (.tuple #[.int .i64 ((span n i j).1 : Int), .int .i64 ((span n i j).2 : Int)]) ∧ w' = w := by
  have n0 : (0 : Int) ≤ (n : Int) := by omega
  have n9 : (n : Int) ≤ 1048576 := by omega
  obtain ⟨a, ea⟩ : ∃ a, max (idx n i) 0 = a := ⟨_, rfl⟩
  obtain ⟨b, eb⟩ : ∃ b, min (idx n j) ((n : Int) - 1) = b := ⟨_, rfl⟩
  obtain ⟨s1, s2⟩ := span_is n i j a b ea eb
  rw [s1, s2]
  have mx := run_max_is _ _ ea
  have mn := run_min_is _ _ _ eb
  have m1 : IntKind.i64.wrap ((n : Int) - 1) = (n : Int) - 1 := by rw [IntKind.wrap_i64]; omega
  have b1 : IntKind.i64.wrap (b + 1) = b + 1 := by
    have : -9223372036854775808 ≤ b ∧ b ≤ 1048576 := by subst eb; unfold idx; constructor <;> split <;> omega
    rw [IntKind.wrap_i64]; omega
  clear s1 s2
  by_cases hi : i < 0
  · have fi : idx n i = i + (n : Int) := by unfold idx; rw [if_pos hi]; omega
    have wi : IntKind.i64.wrap (i + (n : Int)) = i + (n : Int) := by rw [IntKind.wrap_i64]; omega
    rw [fi] at mx
    clear ea fi
    by_cases hj : j < 0
    · have fj : idx n j = j + (n : Int) := by unfold idx; rw [if_pos hj]; omega
      have wj : IntKind.i64.wrap (j + (n : Int)) = j + (n : Int) := by rw [IntKind.wrap_i64]; omega
      rw [fj] at mn
      clear eb fj
      by_cases hab : b < a
      · rw [if_pos hab, if_pos hab]
        go_enter Tryd.func31, Tryd.ntmps31
        go_wp2_with fail
        go_ret2
        exact ⟨by simp [*], rfl⟩
      · have hab' : a ≤ b := by omega
        rw [if_neg hab, if_neg hab]
        go_enter Tryd.func31, Tryd.ntmps31
        go_wp2_with fail
        go_ret2
        exact ⟨by simp [*], rfl⟩
    · have hj' : 0 ≤ j := by omega
      have fj : idx n j = j := by unfold idx; rw [if_neg hj]
      rw [fj] at mn
      clear eb fj hj
      by_cases hab : b < a
      · rw [if_pos hab, if_pos hab]
        go_enter Tryd.func31, Tryd.ntmps31
        go_wp2_with fail
        go_ret2
        exact ⟨by simp [*], rfl⟩
      · have hab' : a ≤ b := by omega
        rw [if_neg hab, if_neg hab]
        go_enter Tryd.func31, Tryd.ntmps31
        go_wp2_with fail
        go_ret2
        exact ⟨by simp [*], rfl⟩
  · have hi' : 0 ≤ i := by omega
    have fi : a = i := by rw [← ea]; unfold idx; rw [if_neg hi]; omega
    clear ea mx hi
    subst fi
    by_cases hj : j < 0
    · have fj : idx n j = j + (n : Int) := by unfold idx; rw [if_pos hj]; omega
      have wj : IntKind.i64.wrap (j + (n : Int)) = j + (n : Int) := by rw [IntKind.wrap_i64]; omega
      rw [fj] at mn
      clear eb fj
      by_cases hab : b < a
      · rw [if_pos hab, if_pos hab]
        go_enter Tryd.func31, Tryd.ntmps31
        go_wp2_with fail
        go_ret2
        exact ⟨by simp [*], rfl⟩
      · have hab' : a ≤ b := by omega
        rw [if_neg hab, if_neg hab]
        go_enter Tryd.func31, Tryd.ntmps31
        go_wp2_with fail
        go_ret2
        exact ⟨by simp [*], rfl⟩
    · have hj' : 0 ≤ j := by omega
      have fj : idx n j = j := by unfold idx; rw [if_neg hj]
      rw [fj] at mn
      clear eb fj hj
      by_cases hab : b < a
      · rw [if_pos hab, if_pos hab]
        go_enter Tryd.func31, Tryd.ntmps31
        go_wp2_with fail
        go_ret2
        exact ⟨by simp [*], rfl⟩
      · have hab' : a ≤ b := by omega
        rw [if_neg hab, if_neg hab]
        go_enter Tryd.func31, Tryd.ntmps31
        go_wp2_with fail
        go_ret2
        exact ⟨by simp [*], rfl⟩
end Go.Proofs.YtopnbfhkfagemaaDoor
