/- The contracts of the landed crc.Update and crc.Sum: for any sum ahead and any bytes they return CRC-32's sum; memory that was there stays. -/
import Derived.Test.YtmikdnjjnadimaaCrcTabU
namespace Go.Proofs.Ytmikdnjjnadimaa
open Go.RowKit
set_option linter.unusedVariables false
theorem bv_of {n : Int} (h : (Lit.int .u32 n).wf = true) : ∃ x : BitVec 32, n = (x.toNat : Int) := by
  have b : 0 ≤ n ∧ n ≤ 4294967295 := by
    simp only [Lit.wf, Bool.and_eq_true, decide_eq_true_eq] at h; exact h
  refine ⟨BitVec.ofNat 32 n.toNat, ?_⟩
  rw [BitVec.toNat_ofNat, Nat.mod_eq_of_lt (by omega)]
  omega
theorem b8_of (x : BitVec 32) (c : UInt8) : bits .xor .u8 ((x.toNat : Int) % 256) (c.toNat : Int) = (((UInt8.ofNat x.toNat) ^^^ c).toNat : Int) := by
  have e : (x.toNat : Int) % 256 = ((UInt8.ofNat x.toNat).toNat : Int) := by
    rw [UInt8.toNat_ofNat']
    omega
  rw [e, b8_xor]
theorem byte_split (x : BitVec 32) (c : UInt8) : (x >>> 8) ^^^ Crc.steps 8 (BitVec.ofNat 32 ((UInt8.ofNat x.toNat) ^^^ c).toNat) = Crc.byte x c := by
  rw [Crc.byte, Crc.steps_split (x ^^^ BitVec.ofNat 32 c.toNat), BitVec.xor_comm]
  have h255 : ∀ i, i < 32 → (255#32 : BitVec 32).getLsbD i = decide (i < 8) := fun i hi => by
    rw [show (255#32 : BitVec 32) = BitVec.ofNat 32 (2 ^ 8 - 1) from rfl, BitVec.getLsbD_ofNat, Nat.testBit_two_pow_sub_one]
    simp [hi]
  have hc : ∀ i, 8 ≤ i → c.toNat.testBit i = false := fun i hi => Nat.testBit_lt_two_pow (Nat.lt_of_lt_of_le c.toNat_lt (Nat.pow_le_pow_right (by decide) hi))
  congr 1
  · congr 1
    apply BitVec.eq_of_getLsbD_eq
    intro i hi
    rw [BitVec.getLsbD_ofNat, BitVec.getLsbD_and, h255 i hi, BitVec.getLsbD_xor, BitVec.getLsbD_ofNat, UInt8.toNat_xor, Nat.testBit_xor, UInt8.toNat_ofNat', show (2 : Nat) ^ 8 = 2 ^ 8 from rfl, Nat.testBit_mod_two_pow]
    by_cases k : i < 8
    · simp [k, hi, BitVec.getLsbD]
    · simp [k, hc i (by omega)]
  · apply BitVec.eq_of_getLsbD_eq
    intro i hi
    rw [BitVec.getLsbD_ushiftRight, BitVec.getLsbD_ushiftRight, BitVec.getLsbD_xor, BitVec.getLsbD_ofNat, hc (8 + i) (by omega)]
    simp
theorem b_shr8 (x : BitVec 32) : (x.toNat : Int) / (256 : Int) = ((x >>> 8).toNat : Int) := by
  have e : (x >>> 8).toNat = x.toNat / 256 := by rw [BitVec.toNat_ushiftRight, Nat.shiftRight_eq_div_pow]
  rw [e]
  omega
theorem tabT_at {d : Nat} (h : d < 256) : tabT.getD d 0#32 = Crc.steps 8 (BitVec.ofNat 32 d) := by simp [tabT, List.getD, h]
theorem tabT_len : tabT.length = 256 := by simp [tabT]
theorem none256_len : none256.length = 256 := List.length_replicate ..
theorem zeros_size : zeros.size = 256 := by rw [zeros_is, List.size_toArray, List.length_map, none256_len]
theorem stored (w : World) (W : World) (h : W.heap[w.heap.size]? = some (.cells zeros 52 (0, 0))) :
    (storeCells ⟨w.heap.size, 0, none⟩ (tabT.map v32)).run Try.prog W = .ok () (W.setRow w.heap.size (tabT.map v32).toArray) := by
  have e : zeros.size = 256 := zeros_size
  have et : zeros.toList.length = 256 := by rw [Array.length_toList]; exact e
  have k := run_storeCells_at Try.prog w.heap.size 0 52 (tabT.map v32) 0 zeros W h (by rw [List.length_map, tabT_len, e]; exact Nat.le_refl _) (fun v hv => by
    obtain ⟨c, _, rfl⟩ := List.mem_map.1 hv
    rfl)
  rw [List.drop_eq_nil_of_le (by rw [et, List.length_map, tabT_len]; exact Nat.le_refl _), Nat.add_zero, List.take_zero, List.nil_append, List.append_nil] at k
  exact k
set_option maxRecDepth 100000 in
set_option maxHeartbeats 1000000 in
theorem up_ok : UpOk := by
  intro c A l cap B w hl h hB
  have H := Lib.hid h
  have hal := zero256
  clear h
  go_enter Try.func22, Try.ntmps22
  go_wp2_with fail
  go_at_call 24
  refine (table_any _).mono ?_
  rintro e w' ⟨rfl, hb⟩
  have hst := stored w' _ (heap_alloc_new w' (.cells zeros 52))
  go_wp2_with fail
  have hw : ∃ W, W = (w'.alloc (.cells zeros 52)).setRow w'.heap.size (tabT.map v32).toArray := ⟨_, rfl⟩
  obtain ⟨W, hW⟩ := hw
  have HT : Hid (Tab W w'.heap.size tabT) := by rw [hW]; exact setRow_heap _ _ _ _ _ _ (heap_alloc_new _ _)
  have HBW : Hid (Below w.heap.size w W) := by rw [hW]; exact below_setRow' (hb.alloc hb.size _) hb.size _
  have HA : Hid (Bs W B A l) := H.out.below (HBW.out.mono hB)
  rw [← hW]
  clear hW H
  go_loop [6, 14] (fun r i => ∃ (k : Nat) (x : BitVec 32), k ≤ l.length ∧ i = .int .i64 k ∧ r = .int .u32 (x.toNat : Int) ∧ Crc.upd (~~~ c) l = Crc.upd x (l.drop k)) (fun _ i => l.length - (intOf i).toNat)
  case atStart => exact ⟨0, ~~~ c, Nat.zero_le _, rfl, val_u32 (b_not c), by rw [List.drop_zero]⟩
  case round =>
    obtain ⟨k, x, hk, rfl, rfl, hr⟩ := hrel
    have HR := Lib.hid hr
    clear hr
    by_cases hlt : k < l.length
    · obtain ⟨p, rfl, hbk, hc⟩ := HA.out k hlt
      have HD : Hid (l.drop k = l[k] :: l.drop (k + 1)) := List.drop_eq_getElem_cons hlt
      generalize l[k] = d at *
      obtain ⟨y, hy⟩ : ∃ y, y = (UInt8.ofNat x.toNat) ^^^ d := ⟨_, rfl⟩
      have b1 := b8_of x d
      rw [← hy] at b1
      have y0 : (0 : Int) ≤ (y.toNat : Int) := by omega
      have y1 : (y.toNat : Int) < 256 := by have := y.toNat_lt; omega
      obtain ⟨z, ez, cz⟩ := HT.out.word y.toNat (by rw [tabT_len]; exact y.toNat_lt)
      rw [tabT_at y.toNat_lt] at ez
      have b2 : bits .xor .u32 ((x.toNat : Int) / 256) (z.toNat : Int) = ((Crc.byte x d).toNat : Int) := by
        rw [b_shr8, b_xor, ez, hy, byte_split]
      clear hy ez
      go_wp2_with fail
      go_round
      case rel => exact ⟨k + 1, Crc.byte x d, by omega, by go_num, rfl, by rw [HR.out, HD.out, Crc.upd]⟩
      case measure => simp [intOf]; omega
    · go_wp2_with fail
      go_ret
      have e : l.drop k = [] := List.drop_eq_nil_of_le (by omega)
      exact ⟨ret_u32 (by rw [Crc.crc, HR.out, e, Crc.upd, b_not]), HBW.out⟩
theorem sum_ok : SumOk := by
  intro A l cap B w hl h hB
  go_enter Try.func23, Try.ntmps23
  go_wp2_with (go_at_call 22; refine (up_ok 0#32 A l cap B _ hl h hB).mono ?_; rintro e w' ⟨rfl, hb⟩)
  go_ret
  exact ⟨rfl, hb⟩
end Go.Proofs.Ytmikdnjjnadimaa
