/- The walk of the law CrcBursts, out of the contract of crc.Sum. -/
import Derived.Test.YtfkadihofjbaoaaCrcOk
namespace Go.Proofs.Ytfkadihofjbaoaa
open Go.RowKit
set_option linter.unusedVariables false
theorem first_at (t : Int) (n : Nat) (h : 1 ≤ n) (h2 : n ≤ 300) : ∃ f : Nat, f < 8 * n ∧ (wrap64 (t.tmod (8 * (n : Int)) + 8 * (n : Int))).tmod (8 * (n : Int)) = (f : Int) := by
  have n0 : (n.toUInt64.toNat : Int) = (n.toUInt64.toNat : Int) := rfl
  have m : -(8 * (n : Int)) < t.tmod (8 * (n : Int)) ∧ t.tmod (8 * (n : Int)) < 8 * (n : Int) := by
    have a : (t.tmod (8 * (n : Int))).natAbs = t.natAbs % (8 * (n : Int)).natAbs := Int.natAbs_tmod _ _
    have b : t.natAbs % (8 * (n : Int)).natAbs < (8 * (n : Int)).natAbs := Nat.mod_lt _ (by omega)
    omega
  have e : wrap64 (t.tmod (8 * (n : Int)) + 8 * (n : Int)) = t.tmod (8 * (n : Int)) + 8 * (n : Int) := by unfold wrap64; omega
  rw [e, Int.tmod_eq_emod_of_nonneg (by omega)]
  have p := Int.emod_lt_of_pos (t.tmod (8 * (n : Int)) + 8 * (n : Int)) (show (0 : Int) < 8 * n by omega)
  have q := Int.emod_nonneg (t.tmod (8 * (n : Int)) + 8 * (n : Int)) (show (8 * n : Int) ≠ 0 by omega)
  exact ⟨((t.tmod (8 * (n : Int)) + 8 * (n : Int)) % (8 * (n : Int))).toNat, by omega, by omega⟩
/-- One bit of one byte turned. -/
theorem bit_turn (l : List UInt8) (K k : Nat) (hK : K / 8 < l.length) (v : UInt8) (hv : v = UInt8.ofNat (2 ^ (K % 8))) :
    Crc.bitAt (l.set (K / 8) (l[K / 8] ^^^ v)) k = (Crc.bitAt l k ^^ decide (k = K)) := by
  subst hv
  have p : 2 ^ (K % 8) < 256 := Nat.lt_of_lt_of_le (Nat.pow_lt_pow_right (by decide) (Nat.mod_lt K (by decide))) (by decide)
  unfold Crc.bitAt
  by_cases e : K / 8 = k / 8
  · have h1 : (l.set (K / 8) (l[K / 8] ^^^ UInt8.ofNat (2 ^ (K % 8)))).getD (k / 8) 0 = l[K / 8] ^^^ UInt8.ofNat (2 ^ (K % 8)) := by
      rw [← e]; simp [List.getD, hK]
    have h2 : l.getD (k / 8) 0 = l[K / 8] := by
      rw [← e]; simp [List.getD, hK]
    have h3 : (UInt8.ofNat (2 ^ (K % 8))).toNat = 2 ^ (K % 8) := by
      rw [UInt8.toNat_ofNat_of_lt' (by simpa using p)]
    have h4 : decide (K % 8 = k % 8) = decide (k = K) := by
      apply decide_eq_decide.2; omega
    rw [h1, h2, UInt8.toNat_xor, Nat.testBit_xor, h3, Nat.testBit_two_pow, h4]
  · have h1 : (l.set (K / 8) (l[K / 8] ^^^ UInt8.ofNat (2 ^ (K % 8)))).getD (k / 8) 0 = l.getD (k / 8) 0 := by
      simp [List.getD, e]
    have h4 : decide (k = K) = false := by
      apply decide_eq_false; intro c; apply e; rw [c]
    rw [h1, h4, Bool.xor_false]
theorem b_bit (x : BitVec 32) (k : Nat) : bits .and .u32 ((x.toNat : Int) / (2 : Int) ^ k) 1 = if x.toNat.testBit k then 1 else 0 := by
  have e : (x.toNat : Int) / (2 : Int) ^ k = ((x >>> k).toNat : Int) := by
    rw [BitVec.toNat_ushiftRight, Nat.shiftRight_eq_div_pow]
    simp
  have l : (x >>> k).getLsbD 0 = x.toNat.testBit k := by
    rw [BitVec.getLsbD_ushiftRight]; rfl
  rw [e, b_odd, l]
theorem pow_byte (K : Nat) : (2 : Int) ^ (K % 8) % 256 = ((UInt8.ofNat (2 ^ (K % 8))).toNat : Int) := by
  have p : 2 ^ (K % 8) < 256 := Nat.lt_of_lt_of_le (Nat.pow_lt_pow_right (by decide) (Nat.mod_lt K (by decide))) (by decide)
  rw [UInt8.toNat_ofNat_of_lt' (by simpa using p)]
  have e : (2 : Int) ^ (K % 8) = ((2 ^ (K % 8) : Nat) : Int) := by simp
  rw [e]
  generalize (2 ^ (K % 8) : Nat) = n at p ⊢
  omega
theorem burst_eq {x y : BitVec 32} {p : Bool} (h : x = y ↔ p = false) : ((!((x.toNat : Int) == (y.toNat : Int))) == p) = true := by
  by_cases e : x = y
  · have := h.1 e
    subst e
    rw [this]
    simp
  · have hp : p = true := by
      cases p
      · exact absurd (h.2 rfl) e
      · rfl
    have hn : ((x.toNat : Int) == (y.toNat : Int)) = false := by
      rw [beq_eq_false_iff_ne]
      intro k
      exact e (BitVec.eq_of_toNat_eq (by omega))
    rw [hn, hp]
    rfl
/-- What has been turned after i rounds. -/
def Turned (b cs : List UInt8) (f i pat : Nat) : Prop := ∀ k, k < 8 * b.length → Crc.bitAt cs k = (Crc.bitAt b k ^^ (decide (f ≤ k ∧ k < f + i) && pat.testBit (k - f)))
theorem Turned.start (b : List UInt8) (f pat : Nat) : Turned b b f 0 pat := fun k _ => by
  have : decide (f ≤ k ∧ k < f + 0) = false := by apply decide_eq_false; omega
  rw [this, Bool.false_and, Bool.xor_false]
theorem Turned.no {b cs : List UInt8} {f i pat : Nat} (h : Turned b cs f i pat) (hp : pat.testBit i = false) : Turned b cs f (i + 1) pat := fun k hk => by
  rw [h k hk]
  by_cases e : k = f + i
  · subst e
    have : f + i - f = i := by omega
    rw [this, hp, Bool.and_false, Bool.and_false]
  · have : decide (f ≤ k ∧ k < f + i) = decide (f ≤ k ∧ k < f + (i + 1)) := by apply decide_eq_decide.2; omega
    rw [this]
theorem Turned.yes {b cs : List UInt8} {f i pat : Nat} (h : Turned b cs f i pat) (hp : pat.testBit i = true) (hl : cs.length = b.length) (hf : f + i < 8 * b.length) (v : UInt8) (hv : v = UInt8.ofNat (2 ^ ((f + i) % 8))) :
    Turned b (cs.set ((f + i) / 8) (cs[(f + i) / 8]'(by omega) ^^^ v)) f (i + 1) pat := fun k hk => by
  rw [bit_turn cs (f + i) k (by omega) v hv, h k hk, Bool.xor_assoc]
  congr 1
  by_cases e : k = f + i
  · subst e
    have h0 : f + i - f = i := by omega
    have h1 : decide (f ≤ f + i ∧ f + i < f + i) = false := by apply decide_eq_false; omega
    have h2 : decide (f ≤ f + i ∧ f + i < f + (i + 1)) = true := by apply decide_eq_true; omega
    rw [h0, h1, h2, hp]
    simp
  · have h1 : decide (f ≤ k ∧ k < f + i) = decide (f ≤ k ∧ k < f + (i + 1)) := by apply decide_eq_decide.2; omega
    rw [h1]
    simp [e]
/-- Has a bit been turned in the first i rounds? -/
def anyTo (pat i : Nat) : Bool := (List.range i).any fun j => pat.testBit j
theorem anyTo_next (pat i : Nat) : anyTo pat (i + 1) = (anyTo pat i || pat.testBit i) := by
  unfold anyTo
  rw [List.range_succ, List.any_append]
  simp
theorem anyTo_iff (pat i : Nat) : anyTo pat i = false ↔ ∀ j, j < i → pat.testBit j = false := by
  unfold anyTo
  simp
set_option maxHeartbeats 1000000 in
theorem bursts_short (SM : SumOk) (A : Option Addr) (b : List UInt8) (cb : Nat) (t : Int) (x : BitVec 32) (hA : A = none → cb = 0) (w : World) (hb : Bs w w.heap.size A b) (l1 : 1 ≤ b.length) (l2 : b.length ≤ 300) (wt : (Lit.int .i64 t).wf = true) :
    Calls Try.prog 4 #[.slice A b.length cb, .int .i64 t, .int .u32 (x.toNat : Int)] w fun e w' => e = .returned (.bool true) ∧ Below w.heap.size w w' := by
  have S := Lib.hid SM
  have HA := Lib.hid hA
  have HB := Lib.hid hb
  clear SM hA hb
  have bw1 : Below w.heap.size w (w.alloc (.cells #[] 5)) := (Below.refl _ w).alloc (Nat.le_refl _) _
  have BW1 := Lib.hid bw1
  clear bw1
  have N1 : Hid (([] : List UInt8).length + b.length ≤ 140737488355328) := by show ([] : List UInt8).length + b.length ≤ 140737488355328; simp; omega
  have z0 : ((b.length : Int) == 0) = false := by
    have : (b.length : Int) ≠ 0 := by omega
    simpa using this
  have z1 : ¬ b = [] := by intro e; rw [e] at l1; simp at l1
  have z2 : (b.length : Int) ≤ 300 := by omega
  obtain ⟨f, f1, hf⟩ := first_at t b.length l1 l2
  go_enter Try.func4, Try.ntmps4
  go_wp2_with (at_builtin; refine wpList_append_own_bytes rfl (.tmp 22) (.tmp 23) rfl w _ [] rfl (own_none w _) BW1.out A cb b rfl HA.out HB.out N1.out ?_; intro v1 w1 own1 bw1; rw [List.nil_append] at own1; obtain ⟨g, c1, rfl, hg, hc1, ow⟩ := Own.of_row own1 l1; clear own1)
  have OW := Lib.hid ow
  have BW := Lib.hid bw1
  clear ow bw1
  go_loopw [10, 11, 12] (fun tu i _ wr => ∃ (k : Nat) (cs : List UInt8), k ≤ 32 ∧ f + k ≤ 8 * b.length ∧ i = .int .i64 k ∧ tu = .bool (anyTo x.toNat k) ∧ cs.length = b.length ∧ Own wr g cs ∧ Below w.heap.size w wr ∧ Turned b cs f k x.toNat) (fun _ i _ _ => 32 - (intOf i).toNat)
  case atStart => exact ⟨0, b, by omega, by omega, rfl, rfl, rfl, OW.out, BW.out, Turned.start b f _⟩
  case round =>
    obtain ⟨k, cs, hk, hfk, rfl, rfl, hl, ho, hbw, ht⟩ := hrel
    have HL := Lib.hid hl
    have HO := Lib.hid ho
    have HBW := Lib.hid hbw
    have HT := Lib.hid ht
    clear hl ho hbw ht
    by_cases hlt : k < 32 ∧ f + k < 8 * b.length
    · obtain ⟨hlt1, hlt2⟩ := hlt
      have i1 : ((k : Int) < 32) := by omega
      have i2 : ((f : Int) + (k : Int) < 8 * (b.length : Int)) := by omega
      have hb := b_bit x k
      have q1 : (f + k) / 8 < cs.length := by rw [HL.out]; omega
      have xc := HO.out.cell ((f + k) / 8) q1
      have xf := HO.out.free ((f + k) / 8)
      cases hp : x.toNat.testBit k
      · have HP := Lib.hid hp
        rw [hp, if_neg (by decide)] at hb
        clear hp
        go_wp2_with fail
        go_roundw
        case rel => exact ⟨k + 1, cs, by omega, by omega, by go_num, by rw [anyTo_next, HP.out, Bool.or_false], HL.out, HO.out, HBW.out, HT.out.no HP.out⟩
        case measure => simp [intOf]; omega
      · have HP := Lib.hid hp
        rw [hp, if_pos rfl] at hb
        clear hp
        have hv : Hid (bits .xor .u8 (cs[(f + k) / 8].toNat : Int) ((2 : Int) ^ ((f + k) % 8) % 256) = ((cs[(f + k) / 8] ^^^ UInt8.ofNat (2 ^ ((f + k) % 8))).toNat : Int)) := by
          show bits .xor .u8 (cs[(f + k) / 8].toNat : Int) ((2 : Int) ^ ((f + k) % 8) % 256) = _
          rw [← b8_xor, pow_byte]
        go_wp2_with fail
        go_roundw
        case rel => exact ⟨k + 1, cs.set ((f + k) / 8) (cs[(f + k) / 8] ^^^ UInt8.ofNat (2 ^ ((f + k) % 8))), by omega, by omega, by go_num, by rw [anyTo_next, HP.out, Bool.or_true], by rw [List.length_set]; exact HL.out, by rw [hv.out]; exact HO.out.put _ q1 _, HBW.out.setCell (p := ⟨g, (f + k) / 8, none⟩) hg _, HT.out.yes HP.out HL.out hlt2 _ rfl⟩
        case measure => simp [intOf]; omega
    · have hbt := Crc.burst_told b cs 0#32 HL.out f k x.toNat hk hfk HT.out
      rw [← anyTo_iff] at hbt
      have HE : Hid (((!(((Crc.crc 0#32 b).toNat : Int) == ((Crc.crc 0#32 cs).toNat : Int))) == anyTo x.toNat k) = true) := burst_eq hbt
      clear hbt
      have l4 : Hid (b.length ≤ 4096) := by show b.length ≤ 4096; omega
      have hno : ¬ ((k : Int) < 32) ∨ ((k : Int) < 32 ∧ ¬ ((f : Int) + (k : Int) < 8 * (b.length : Int))) := by omega
      rcases hno with i1 | ⟨i1, i2⟩
      all_goals
        (have HBr := Lib.hid (HB.out.later HBW.out))
        (have HCr := Lib.hid HO.out.reads)
        (clear HT)
        (go_wp2_with (go_at_call 6; refine (told_any S.out _).mono ?_; rintro e w2 ⟨rfl, hb2⟩))
        (go_at_call 9)
        (refine (sum_at S.out A b b.length cb rfl l4.out _ (HBr.out.later hb2)).mono ?_)
        (rintro e w3 ⟨rfl, hb3⟩)
        (have hb23 := below_then hb2 hb3)
        (clear hb2 hb3)
        (go_wp2_with fail)
        (go_at_call 9)
        (refine (sum_at S.out _ cs b.length c1 HL.out l4.out _ (HCr.out.later hb23)).mono ?_)
        (rintro e w4 ⟨rfl, hb4⟩)
        (have hb24 := below_then HBW.out (below_then hb23 hb4))
        (clear hb23 hb4)
        (go_wp2_with fail)
        (go_ret)
        (exact ⟨ret_true HE.out, hb24⟩)
set_option maxHeartbeats 1000000 in
theorem bursts_none (SM : SumOk) (A : Option Addr) (cb : Nat) (t x : Int) (w : World) :
    Calls Try.prog 4 #[.slice A 0 cb, .int .i64 t, .int .u32 x] w fun e w' => e = .returned (.bool true) ∧ Below w.heap.size w w' := by
  have S := Lib.hid SM
  clear SM
  go_enter Try.func4, Try.ntmps4
  go_wp2_with (go_at_call 6; refine (told_any S.out _).mono ?_; rintro e w2 ⟨rfl, hb⟩)
  go_ret
  exact ⟨rfl, hb⟩
set_option maxHeartbeats 1000000 in
theorem bursts_long (SM : SumOk) (A : Option Addr) (n cb : Nat) (t x : Int) (w : World) (l1 : 300 < n) :
    Calls Try.prog 4 #[.slice A n cb, .int .i64 t, .int .u32 x] w fun e w' => e = .returned (.bool true) ∧ Below w.heap.size w w' := by
  have S := Lib.hid SM
  clear SM
  have z0 : ((n : Int) == 0) = false := by
    have : (n : Int) ≠ 0 := by omega
    simpa using this
  have z2 : 300 < (n : Int) := by omega
  go_enter Try.func4, Try.ntmps4
  go_wp2_with (go_at_call 6; refine (told_any S.out _).mono ?_; rintro e w2 ⟨rfl, hb⟩)
  go_ret
  exact ⟨rfl, hb⟩
end Go.Proofs.Ytfkadihofjbaoaa
