/- The contract of the document's own checksum (scriptoriumref1.Crc): for any sum ahead and any bytes it returns what CRC-32 is in words of bit vectors; memory stays as it was. -/
import Derived.Test.YtmikdnjjnadimaaBytes
import Derived.Test.YtmikdnjjnadimaaCrcNum
namespace Go.Proofs.Ytmikdnjjnadimaa
open Go.RowKit
set_option linter.unusedVariables false

theorem ofInt_toNat (x : BitVec 32) : BitVec.ofInt 32 (x.toNat : Int) = x := by
  rw [BitVec.ofInt_natCast, BitVec.ofNat_toNat, BitVec.setWidth_eq]
theorem wrap_bv (x : BitVec 32) : IntKind.u32.wrap (x.toNat : Int) = (x.toNat : Int) := by
  have := x.isLt
  simp [IntKind.wrap, IntKind.bits, IntKind.signed]
  omega
theorem b_xor (x y : BitVec 32) : bits .xor .u32 (x.toNat : Int) (y.toNat : Int) = ((x ^^^ y).toNat : Int) := by
  show IntKind.u32.wrap ((BitVec.ofInt 32 (x.toNat : Int) ^^^ BitVec.ofInt 32 (y.toNat : Int)).toNat : Int) = _
  rw [ofInt_toNat, ofInt_toNat, wrap_bv]
theorem b_and (x y : BitVec 32) : bits .and .u32 (x.toNat : Int) (y.toNat : Int) = ((x &&& y).toNat : Int) := by
  show IntKind.u32.wrap ((BitVec.ofInt 32 (x.toNat : Int) &&& BitVec.ofInt 32 (y.toNat : Int)).toNat : Int) = _
  rw [ofInt_toNat, ofInt_toNat, wrap_bv]
theorem b_not (x : BitVec 32) : bits .xor .u32 IntKind.u32.max (x.toNat : Int) = ((~~~ x).toNat : Int) := by
  have e : IntKind.u32.max = ((BitVec.allOnes 32).toNat : Int) := by decide
  rw [e, b_xor, BitVec.allOnes_xor]
theorem b_byte (c : UInt8) : (c.toNat : Int) % 4294967296 = ((BitVec.ofNat 32 c.toNat).toNat : Int) := by
  have := c.toNat_lt
  simp
  omega
theorem b_odd (x : BitVec 32) : bits .and .u32 (x.toNat : Int) 1 = if x.getLsbD 0 then 1 else 0 := by
  have e : (1 : Int) = ((1#32 : BitVec 32).toNat : Int) := by decide
  have h : bits .and .u32 (x.toNat : Int) 1 = ((x &&& 1#32).toNat : Int) := by
    conv => lhs; rw [e]
    exact b_and x 1#32
  rw [h]
  have k : x &&& 1#32 = if x.getLsbD 0 then 1#32 else 0#32 := by
    apply BitVec.eq_of_getLsbD_eq
    intro i hi
    rw [BitVec.getLsbD_and]
    by_cases z : i = 0
    · subst z; cases x.getLsbD 0 <;> simp
    · have : (1#32 : BitVec 32).getLsbD i = false := by simp [z]
      rw [this, Bool.and_false]
      cases x.getLsbD 0 <;> simp [z]
  rw [k]
  cases x.getLsbD 0 <;> rfl

theorem b_half (x : BitVec 32) : (x.toNat : Int) / (2 : Int) = ((x >>> 1).toNat : Int) := by
  have e : (x >>> 1).toNat = x.toNat / 2 := by rw [BitVec.toNat_ushiftRight, Nat.shiftRight_eq_div_pow]
  rw [e]
  omega
theorem b_poly (x : BitVec 32) : bits .xor .u32 ((x.toNat : Int) / 2) 3988292384 = (((x >>> 1) ^^^ 0xEDB88320#32).toNat : Int) := by
  have e : (3988292384 : Int) = ((0xEDB88320#32 : BitVec 32).toNat : Int) := by decide
  rw [b_half x]
  conv => lhs; rw [e]
  exact b_xor _ _
theorem step_odd {x : BitVec 32} (h : x.getLsbD 0 = true) : Crc.step x = (x >>> 1) ^^^ 0xEDB88320#32 := by rw [Crc.step, h]; rfl
theorem step_even {x : BitVec 32} (h : x.getLsbD 0 = false) : Crc.step x = x >>> 1 := by rw [Crc.step, h]; rfl
theorem ret_u32 {a b : Int} (h : a = b) : Ending.returned (.int .u32 a) = .returned (.int .u32 b) := by rw [h]
theorem val_u32 {a b : Int} (h : a = b) : Value.int .u32 a = Value.int .u32 b := by rw [h]
set_option maxHeartbeats 1000000 in
theorem refcrc_any (c : BitVec 32) (A : Option Addr) (l : List UInt8) (cap B : Nat) (w : World) (hl : l.length ≤ maxLen) (h : Bs w B A l) :
    Calls Try.prog 18 #[.int .u32 (c.toNat : Int), .slice A l.length cap] w fun e w' => e = .returned (.int .u32 ((Crc.crc c l).toNat : Int)) ∧ w = w' := by
  have H := Lib.hid h
  clear h
  unfold maxLen at hl
  go_enter Try.func18, Try.ntmps18
  go_wp2
  go_loop [5, 6, 7, 8] (fun r i _ _ => ∃ (k : Nat) (x : BitVec 32), k ≤ l.length ∧ i = .int .i64 k ∧ r = .int .u32 (x.toNat : Int) ∧ Crc.upd (~~~ c) l = Crc.upd x (l.drop k)) (fun _ i _ _ => l.length - (intOf i).toNat)
  case atStart => exact ⟨0, ~~~ c, Nat.zero_le _, rfl, val_u32 (b_not c), by rw [List.drop_zero]⟩
  case round =>
    obtain ⟨k, x, hk, rfl, rfl, hr⟩ := hrel
    have HR := Lib.hid hr
    clear hr
    by_cases hlt : k < l.length
    · obtain ⟨p, rfl, hb, hc⟩ := H.out k hlt
      have HD : Hid (l.drop k = l[k] :: l.drop (k + 1)) := List.drop_eq_getElem_cons hlt
      go_wp2
      go_loop [5, 7, 8] (fun r j _ => ∃ (n : Nat) (y : BitVec 32), n ≤ 8 ∧ j = .int .i64 n ∧ r = .int .u32 (y.toNat : Int) ∧ Crc.byte x l[k] = Crc.steps (8 - n) y) (fun _ j _ => 8 - (intOf j).toNat)
      case atStart => exact ⟨0, x ^^^ BitVec.ofNat 32 l[k].toNat, by decide, rfl, val_u32 (by rw [b_byte, b_xor]), rfl⟩
      case round =>
        obtain ⟨n, y, hn, rfl, rfl, hy⟩ := hrel
        have HY := Lib.hid hy
        clear hy
        by_cases h8 : n < 8
        · have e8 : 8 - n = (8 - (n + 1)) + 1 := by omega
          have ho := b_odd y
          cases h0 : y.getLsbD 0
          · have K0 := Lib.hid h0
            rw [h0, if_neg (by decide)] at ho
            clear h0
            go_wp2
            go_round
            case rel => exact ⟨n + 1, y >>> 1, by omega, by go_num, val_u32 (b_half y), by rw [HY.out, e8, Crc.steps, step_even K0.out]⟩
            case measure => simp [intOf]; omega
          · have K0 := Lib.hid h0
            rw [h0, if_pos rfl] at ho
            clear h0
            go_wp2
            go_round
            case rel => exact ⟨n + 1, (y >>> 1) ^^^ 0xEDB88320#32, by omega, by go_num, val_u32 (b_poly y), by rw [HY.out, e8, Crc.steps, step_odd K0.out]⟩
            case measure => simp [intOf]; omega
        · go_wp2
          go_round
          case rel => exact ⟨k + 1, y, by omega, by go_num, rfl, by rw [HR.out, HD.out, Crc.upd, HY.out, show 8 - n = 0 by omega]; rfl⟩
          case measure => simp [intOf]; omega
    · go_wp2
      go_ret
      have e : l.drop k = [] := List.drop_eq_nil_of_le (by omega)
      exact ⟨ret_u32 (by rw [Crc.crc, HR.out, e, Crc.upd, b_not]), rfl⟩
end Go.Proofs.Ytmikdnjjnadimaa
