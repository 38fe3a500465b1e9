/- Package table: a name's hash, its slot. -/
import Derived.Test.YtedpanfdkdbblaaTabI
namespace Go.Proofs.Ytedpanfdkdbblaa
open Go.RowKit
set_option linter.unusedVariables false
/-- One byte more, in the hash's number. -/
def mix (z : Int) (c : UInt8) : Int := IntKind.u64.wrap (bits .xor .u64 z (IntKind.u64.wrap (c.toNat : Int)) * 1099511628211)
def mixed (l : List UInt8) : Int := l.foldl mix 14695981039346656037
def hashI (l : List UInt8) : Int := IntKind.u64.wrap (bits .xor .u64 (mixed l) (mixed l / 4294967296) * 11400714819323198485) / 4294967296
theorem wrap_u64 (x : Int) : 0 ≤ IntKind.u64.wrap x ∧ IntKind.u64.wrap x < 18446744073709551616 := by
  unfold IntKind.wrap
  simp [IntKind.signed, IntKind.bits]
  omega
theorem mixed_snoc (l : List UInt8) (i : Nat) (h : i < l.length) : mixed (l.take (i + 1)) = mix (mixed (l.take i)) l[i] := by
  unfold mixed
  rw [List.take_add_one, List.getElem?_eq_getElem h, Option.toList_some, List.foldl_append]
  rfl
set_option maxHeartbeats 2000000 in
theorem hash_any (w : World) (s : ByteArray) (hs : s.size ≤ 1048576) :
    Calls Try.prog 56 #[.string s] w fun e w' => e = .returned (.int .u64 (hashI s.data.toList)) ∧ w' = w := by
  go_enter Try.func56, Try.ntmps56
  go_wp2_with fail
  go_loop [3, 7] (fun z i => ∃ k : Nat, k ≤ s.size ∧ i = .int .i64 k ∧ z = .int .u64 (mixed (s.data.toList.take k))) (fun _ i => s.size - (intOf i).toNat)
  case atStart => exact ⟨0, Nat.zero_le _, rfl, rfl⟩
  case round =>
    obtain ⟨k, hk, rfl, rfl⟩ := hrel
    obtain ⟨z, hz⟩ : ∃ z, mixed (s.data.toList.take k) = z := ⟨_, rfl⟩
    rw [hz]
    have k0 : (0 : Int) ≤ (k : Int) := by omega
    by_cases hlt : k < s.size
    · have k1 : (k : Int) < (s.size : Int) := by omega
      go_wp2_with fail
      go_round
      case rel => exact ⟨k + 1, hlt, by go_num, by rw [mixed_snoc s.data.toList k (by simpa using hlt), hz]; rfl⟩
      case measure => simp [intOf]; omega
    · have k1 : (s.size : Int) ≤ (k : Int) := by omega
      go_wp2_with fail
      go_ret
      have e : List.take k s.data.toList = s.data.toList := List.take_of_length_le (by simpa using hlt)
      rw [e] at hz
      refine ⟨?_, rfl⟩
      rw [hashI, hz]
      rfl
/-- The place of a name among k slots. -/
def slotOf (k : Nat) (l : List UInt8) : Nat := (hashI l).toNat % k
theorem hashI_nat (l : List UInt8) : ∃ h : Nat, hashI l = (h : Int) ∧ h < 18446744073709551616 := by
  have h := wrap_u64 (bits .xor .u64 (mixed l) (mixed l / 4294967296) * 11400714819323198485)
  exact ⟨(hashI l).toNat, by unfold hashI; omega, by unfold hashI; omega⟩
theorem slotOf_lt (k : Nat) (l : List UInt8) (h : 0 < k) : slotOf k l < k := Nat.mod_lt _ h
set_option maxHeartbeats 2000000 in
theorem chain_any (w : World) (B k : Nat) (s : ByteArray) (hs : s.size ≤ 1048576) (k0 : 0 < k) (k9 : k ≤ 1048576) :
    Calls Try.prog 48 #[.slice (some ⟨B, 0, none⟩) k k, .string s] w fun e w' => e = .returned (.pointer (some ⟨B, slotOf k s.data.toList, none⟩)) ∧ w' = w := by
  obtain ⟨h, hh, h9⟩ := hashI_nat s.data.toList
  have hj : slotOf k s.data.toList = h % k := by unfold slotOf; rw [hh]; rfl
  obtain ⟨j, hjj⟩ : ∃ j, h % k = j := ⟨_, rfl⟩
  have j1 : j < k := by rw [← hjj]; exact Nat.mod_lt _ k0
  have jr : (h : Int).tmod (k : Int) = (j : Int) := by rw [← hjj]; rfl
  rw [hj, hjj]
  clear hjj hj
  have k1 : (0 : Int) < (k : Int) := by omega
  have k2 : (k : Int) ≤ 1048576 := by omega
  have j2 : (j : Int) < (k : Int) := by omega
  have j0 : (0 : Int) ≤ (j : Int) := by omega
  have HH := Lib.hid hh
  clear hh
  go_enter Try.func48, Try.ntmps48
  go_wp2_with fail
  go_at_call 56
  refine (hash_any w s hs).mono ?_
  rintro e w' ⟨rfl, rfl⟩
  rw [HH.out]
  go_wp2_with fail
  go_ret
  exact ⟨rfl, rfl⟩
end Go.Proofs.Ytedpanfdkdbblaa
