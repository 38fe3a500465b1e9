/- The document's own answer: a numeral's number. -/
import Derived.Test.YtikbgkndfmcfhaaDoorLxU2
namespace Go.Proofs.YtikbgkndfmcfhaaDoor
open Go.RowKit
set_option linter.unusedVariables false
theorem val_app (a : Nat) (l r : List UInt8) : LxM.val a (l ++ r) = LxM.val (LxM.val a l) r := List.foldl_append
theorem val_ge : ∀ (r : List UInt8) (a : Nat), a ≤ LxM.val a r
  | [], a => Nat.le_refl _
  | c :: r, a => by
    rw [LxM.val_cons']
    have := val_ge r (a * 10 + (c.toNat - 48))
    omega
theorem num_bad (s : ByteArray) (j : Nat) (h : j < s.size) (hd : LxM.dg (LxM.i s[j]) = false) : LxM.num s.data.toList = none := by
  unfold LxM.num
  rw [if_neg]
  intro ha
  rw [List.all_eq_true] at ha
  have := ha s[j] (List.getElem_mem (show j < s.data.toList.length by simpa using h))
  rw [hd] at this
  cases this
theorem num_big (s : ByteArray) (j : Nat) (h : j < s.size) (hd : 922337203685477580 < LxM.val 0 (s.data.toList.take j)) : LxM.num s.data.toList = none := by
  unfold LxM.num
  split
  · rw [if_neg]
    have e : s.data.toList = s.data.toList.take j ++ s[j] :: s.data.toList.drop (j + 1) := by rw [← drop_cons s j h, List.take_append_drop]
    rw [e, val_app, LxM.val_cons']
    have := val_ge (s.data.toList.drop (j + 1)) (LxM.val 0 (s.data.toList.take j) * 10 + (s[j].toNat - 48))
    omega
  · rfl
theorem take_next (s : ByteArray) (j : Nat) (h : j < s.size) : s.data.toList.take (j + 1) = s.data.toList.take j ++ [s[j]] := by
  rw [List.take_succ_eq_append_getElem (show j < s.data.toList.length by simpa using h)]
  rfl
theorem val_next (s : ByteArray) (j : Nat) (h : j < s.size) : LxM.val 0 (s.data.toList.take (j + 1)) = LxM.val 0 (s.data.toList.take j) * 10 + (s[j].toNat - 48) := by
  rw [take_next s j h, val_app, LxM.val_cons', LxM.val_nil]
/-- What whole returns. -/
def whl (x : Option Int) : Value :=
  match x with
  | some v => .tuple #[.int .i64 v, .bool true]
  | none => .tuple #[.int .i64 0, .bool false]
set_option maxHeartbeats 2000000 in
theorem rwhole_any (s : ByteArray) (w : World) (hs : s.size ≤ 1048576) :
    Calls Tryd.prog 21 #[.string s] w fun e w' => e = .returned (whl (LxM.num s.data.toList)) ∧ w = w' := by
  obtain ⟨r, hr⟩ : ∃ r, LxM.num s.data.toList = r := ⟨_, rfl⟩
  rw [hr]
  have HR := Lib.hid hr
  clear hr
  go_enter Tryd.func21, Tryd.ntmps21
  go_wp2_with fail
  go_loopw [4, 5] (fun n i wr => ∃ j nn : Nat, j ≤ s.size ∧ n = .int .u64 (nn : Int) ∧ i = .int .i64 j ∧ LxM.val 0 (s.data.toList.take j) = nn ∧ (s.data.toList.take j).all (fun c => LxM.dg (LxM.i c)) = true ∧ nn < 18446744073709551616 ∧ wr = w) (fun _ i _ => s.size - (intOf i).toNat)
  case atStart => exact ⟨0, 0, Nat.zero_le _, rfl, rfl, rfl, rfl, by decide, rfl⟩
  case round =>
    obtain ⟨j, nn, hj, rfl, rfl, hv, hall, hn, hwr⟩ := hrel
    obtain rfl := hwr
    have HV := Lib.hid hv
    have HALL := Lib.hid hall
    have j0 : (0 : Int) ≤ (j : Int) := by omega
    have n0 : (0 : Int) ≤ (nn : Int) := by omega
    clear hv hall
    by_cases hlt : j < s.size
    · have j1 : (j : Int) < (s.size : Int) := by omega
      have wk1 : wrap64 ((j : Int) + 1) = ((j + 1 : Nat) : Int) := by unfold wrap64; omega
      obtain ⟨c, ec⟩ : ∃ c, s[j] = c := ⟨_, rfl⟩
      have EC := Lib.hid ec
      have DI := fun w => rdig_any c w
      cases hd : LxM.dg (LxM.i c) with
      | false =>
        rw [hd] at DI
        have NB := Lib.hid (num_bad s j hlt (by rw [ec]; exact hd))
        clear hd
        go_wp2_with (go_at_call 20; refine (DI _).mono ?_; rintro e w' ⟨rfl, rfl⟩)
        go_ret2
        exact ⟨by rw [← HR.out, NB.out]; rfl, rfl⟩
      | true =>
        rw [hd] at DI
        have c1 : 48 ≤ (c.toNat : Int) := of_decide_eq_true (Bool.and_eq_true_iff.1 hd).1
        have c2 : (c.toNat : Int) ≤ 57 := of_decide_eq_true (Bool.and_eq_true_iff.1 hd).2
        have HD := Lib.hid hd
        clear hd
        by_cases hb : 922337203685477580 < nn
        · have n1 : (922337203685477580 : Int) < (nn : Int) := by omega
          have NB := Lib.hid (num_big s j hlt (by rw [HV.out]; exact hb))
          go_wp2_with (go_at_call 20; refine (DI _).mono ?_; rintro e w' ⟨rfl, rfl⟩)
          go_ret2
          exact ⟨by rw [← HR.out, NB.out]; rfl, rfl⟩
        · have n1 : (nn : Int) ≤ 922337203685477580 := by omega
          have n2 : ¬ (922337203685477580 : Int) < (nn : Int) := by omega
          go_wp2_with (go_at_call 20; refine (DI _).mono ?_; rintro e w' ⟨rfl, rfl⟩)
          refine ⟨⟨j + 1, nn * 10 + (c.toNat - 48), hlt, ?_, by first | rfl | rw [wk1], ?_, ?_, by omega, trivial⟩, by simp [intOf]; omega⟩
          · have : (((nn * 10 + (c.toNat - 48) : Nat)) : Int) = (nn : Int) * 10 + ((c.toNat : Int) - 48) := by omega
            rw [this]
          · rw [val_next s j hlt, HV.out, ec]
          · rw [take_next s j hlt, List.all_append, HALL.out, ec]
            simp [HD.out]
    · obtain rfl : j = s.size := by omega
      by_cases hb : 9223372036854775807 < nn
      · have n1 : (9223372036854775807 : Int) < (nn : Int) := by omega
        go_wp2_with fail
        go_ret2
        have NB : LxM.num s.data.toList = none := by
          have hv := HV.out
          rw [List.take_of_length_le (by simp)] at hv
          unfold LxM.num
          rw [hv]
          split
          · rw [if_neg (by omega)]
          · rfl
        exact ⟨by rw [← HR.out, NB]; rfl, rfl⟩
      · have n1 : (nn : Int) ≤ 9223372036854775807 := by omega
        go_wp2_with fail
        go_ret2
        have NB : LxM.num s.data.toList = some (nn : Int) := by
          have hv := HV.out
          have ha := HALL.out
          rw [List.take_of_length_le (by simp)] at hv ha
          unfold LxM.num
          rw [hv, if_pos ha, if_pos (by omega)]
        have cv : IntKind.i64.wrap (nn : Int) = (nn : Int) := by rw [IntKind.wrap_i64]; omega
        exact ⟨by rw [← HR.out, NB]; first | rfl | (unfold whl; simp [cv]), rfl⟩
end Go.Proofs.YtikbgkndfmcfhaaDoor
