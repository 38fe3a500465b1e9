/- The law's own 'Turned': some text, no more than four bytes longer; nothing that was there is changed. -/
import Derived.Test.YtmikdnjjnadimaaConv
import Derived.Test.YtmikdnjjnadimaaSlices
import Derived.Deep.RegionWith
namespace Go.Proofs.Ytmikdnjjnadimaa
open Go.RowKit
set_option linter.unusedVariables false
set_option linter.unusedSimpArgs false
theorem size_one (b : UInt8) : (ByteArray.mk #[b]).size = 1 := rfl
def MInv (w : World) (s : ByteArray) (vs i : Value) (wr : World) : Prop :=
  ∃ (j : Nat) (ys : ByteArray), j ≤ 4 ∧ ys.size ≤ s.size + j ∧ vs = .string ys ∧ i = .int .i64 j ∧ Below w.heap.size w wr
theorem one_byte (W : World) (c : UInt8) : (convert 23 9 (.slice (some ⟨W.heap.size, 0, none⟩) 1 1)).run Try.prog (W.alloc (.cells #[.int .u8 ((c.toNat : Int) / 4)] 5)) = .ok (.string ⟨#[UInt8.ofNat (c.toNat / 4)]⟩) (W.alloc (.cells #[.int .u8 ((c.toNat : Int) / 4)] 5)) :=
  convert_n (l := [UInt8.ofNat (c.toNat / 4)]) 1 1 rfl (Bs.new W _ 5 _ _ (by
    have := c.toNat_lt
    have h : ((UInt8.ofNat (c.toNat / 4)).toNat : Int) = (c.toNat : Int) / 4 := by
      rw [UInt8.toNat_ofNat']; omega
    simp only [List.map_cons, List.map_nil, bv, h]))
theorem one_byte_drew (W : World) (c : UInt8) : (convert 23 9 (.slice (some ⟨W.heap.size, 0, none⟩) 1 1)).run Try.prog (W.alloc (.cells #[.int .u8 ((c.toNat : Int) / 4)] 5)).drew = .ok (.string ⟨#[UInt8.ofNat (c.toNat / 4)]⟩) (W.alloc (.cells #[.int .u8 ((c.toNat : Int) / 4)] 5)).drew :=
  one_byte W.drew c
set_option maxRecDepth 20000 in
set_option maxHeartbeats 4000000 in
theorem mix_any (s : ByteArray) (hs : s.size ≤ 4000) (A B : Option Addr) (ts : List Int) (bs : List UInt8) (n m ca cb : Nat) (hn : ts.length = n) (hm : bs.length = m) (w : World) (hl : Row w A (ts.map (Value.int .i64))) (hb : Bs w w.heap.size B bs) :
    Calls Try.prog 12 #[.string s, .slice A n ca, .slice B m cb] w fun e w' => (∃ ys : ByteArray, e = .returned (.string ys) ∧ ys.size ≤ s.size + 4) ∧ Below w.heap.size w w' := by
  have KL := Lib.hid hl
  have KB := Lib.hid hb
  have HN := Lib.hid hn
  have HM := Lib.hid hm
  clear hl hn hm hb
  go_enter Try.func12, Try.ntmps12
  go_wp2_with fail
  go_loopw [0, 7] (fun vs i wr => MInv w s vs i wr) (fun _ i _ => 4 - (intOf i).toNat)
  case atStart => exact ⟨0, s, Nat.zero_le _, Nat.le_refl _, rfl, rfl, Below.refl _ _⟩
  case round =>
    obtain ⟨j, ys, hj, hy, rfl, rfl, hbw⟩ := hrel
    have BW := Lib.hid hbw
    have HY := Lib.hid hy
    clear hbw hy
    have j0 : (0 : Int) ≤ (j : Int) := by omega
    have y9 : (ys.size : Int) ≤ 4004 := by have := HY.out; omega
    by_cases hlt : j < n ∧ j < m ∧ j < 4 ∧ 0 < ys.size
    · obtain ⟨h1, h2, h3, h4⟩ := hlt
      have j1 : (j : Int) < (n : Int) := by omega
      have j2 : (j : Int) < (m : Int) := by omega
      have j3 : (j : Int) < 4 := by omega
      have j4 : (0 : Int) < (ys.size : Int) := by omega
      obtain ⟨pA, rfl, -, cA⟩ := (KL.out.later BW.out).at_ j (by rw [HN.out]; exact h1)
      generalize ts[j]'(by rw [HN.out]; exact h1) = t at cA
      obtain ⟨pB, rfl, hpB, cB⟩ := KB.out.later BW.out j (by rw [HM.out]; exact h2)
      obtain ⟨c, hc⟩ : ∃ c, bs[j]'(by rw [HM.out]; exact h2) = c := ⟨_, rfl⟩
      rw [hc] at cB
      clear hc
      obtain ⟨k, hk, hkm⟩ := mod_lt t ys.size h4 (by omega)
      have k0 : (0 : Int) ≤ (k : Int) := by omega
      have k1 : (k : Int) < (ys.size : Int) := by omega
      have k2 : (k : Int) ≤ (ys.size : Int) := by omega
      have k3 : (k : Int) + 1 ≤ (ys.size : Int) := by omega
      have k4 : IntKind.i64.wrap ((k : Int) + 1) = (k : Int) + 1 := by simp [IntKind.wrap, IntKind.bits, IntKind.signed]; omega
      obtain ⟨v, hv⟩ : ∃ v, bits .and .u8 (c.toNat : Int) 3 = v := ⟨_, rfl⟩
      have ob := one_byte_drew wr c
      have z1 : (ys.extract 0 k).size = k := by rw [ByteArray.size_extract]; omega
      cases e0 : (v == 0)
      · cases e1 : (v == 1)
        · cases e2 : (v == 2)
          · go_wp2_with fail
            go_region_with (fail)
            all_goals go_wp2_with fail
            all_goals exact ⟨⟨j + 1, _, h3, by have := HY.out; simp [ByteArray.size_append, ByteArray.size_extract, size_one]; omega, rfl, by go_num, (BW.out.alloc BW.out.size _).drew⟩, by simp [intOf]; omega⟩
          · go_wp2_with fail
            go_region_with (fail)
            all_goals go_wp2_with fail
            all_goals exact ⟨⟨j + 1, _, h3, by have := HY.out; simp [ByteArray.size_append, ByteArray.size_extract, size_one]; omega, rfl, by go_num, BW.out.drew⟩, by simp [intOf]; omega⟩
        · go_wp2_with fail
          go_region_with (fail)
          all_goals go_wp2_with fail
          all_goals exact ⟨⟨j + 1, _, h3, by have := HY.out; simp [ByteArray.size_append, ByteArray.size_extract, size_one]; omega, rfl, by go_num, (BW.out.alloc BW.out.size _).drew⟩, by simp [intOf]; omega⟩
      · go_wp2_with fail
        go_region_with (fail)
        all_goals go_wp2_with fail
        all_goals exact ⟨⟨j + 1, _, h3, by have := HY.out; simp [ByteArray.size_append, ByteArray.size_extract, size_one]; omega, rfl, by go_num, (BW.out.alloc BW.out.size _).drew⟩, by simp [intOf]; omega⟩
    · have hcode : (n : Int) ≤ (j : Int) ∨ ((j : Int) < (n : Int) ∧ (m : Int) ≤ (j : Int)) ∨ ((j : Int) < (n : Int) ∧ (j : Int) < (m : Int) ∧ (4 : Int) ≤ (j : Int)) ∨ ((j : Int) < (n : Int) ∧ (j : Int) < (m : Int) ∧ (j : Int) < 4 ∧ (ys.size : Int) ≤ 0) := by omega
      have HYS : Hid (ys.size ≤ s.size + 4) := by show ys.size ≤ s.size + 4; have := HY.out; omega
      rcases hcode with q1 | ⟨q1, q2⟩ | ⟨q1, q2, q3⟩ | ⟨q1, q2, q3, q4⟩
      all_goals
        go_wp2_with fail
        go_ret
        exact ⟨⟨ys, rfl, HYS.out⟩, BW.out⟩
end Go.Proofs.Ytmikdnjjnadimaa
