/- The walk of the law CrcXors, out of the contract of crc.Sum. -/
import Derived.Test.YtfkadihofjbaoaaCrcOk
import Derived.Deep.RegionHeld3
namespace Go.Proofs.Ytfkadihofjbaoaa
open Go.RowKit
set_option linter.unusedVariables false
theorem min4 (x y z n : Nat) (hn : n = min (min (min x y) z) 300) (w : World) : (Builtin.min_ #[3, 3, 3, 3] 3 #[.int .i64 (x : Int), .int .i64 (y : Int), .int .i64 (z : Int), .int .i64 300]).run Try.prog w = .ok (.int .i64 (n : Int)) w := by
  subst hn
  simp [Builtin.min_, Builtin.min2]
  omega
theorem xors_is {a b c ds : List UInt8} {n : Nat} (n1 : n ≤ a.length) (n2 : n ≤ b.length) (n3 : n ≤ c.length) (hl : ds.length = n) (h : ∀ j, j < n → ds.getD j 0 = a.getD j 0 ^^^ b.getD j 0 ^^^ c.getD j 0) :
    ds = Crc.xors (Crc.xors (a.take n) (b.take n)) (c.take n) := by
  have la : (a.take n).length = n := by rw [List.length_take]; omega
  have lb : (b.take n).length = n := by rw [List.length_take]; omega
  have lc : (c.take n).length = n := by rw [List.length_take]; omega
  have l1 := Crc.xors_length (a.take n) (b.take n) (by omega)
  have l2 := Crc.xors_length (Crc.xors (a.take n) (b.take n)) (c.take n) (by omega)
  apply List.ext_getElem (by omega)
  intro j h1 h2
  have e1 := Crc.xors_at (Crc.xors (a.take n) (b.take n)) (c.take n) j (by omega)
  have e2 := Crc.xors_at (a.take n) (b.take n) j (by omega)
  have e3 := h j (by omega)
  rw [e2] at e1
  have t : ∀ l : List UInt8, (l.take n).getD j 0 = l.getD j 0 := fun l => by
    simp [List.getD, show j < n by omega]
  rw [t, t, t, ← e3] at e1
  simp [List.getD, h1, h2] at e1
  exact e1.symm
theorem xors_val (a b c : BitVec 32) : bits .xor .u32 (bits .xor .u32 (a.toNat : Int) (b.toNat : Int)) (c.toNat : Int) = ((a ^^^ b ^^^ c).toNat : Int) := by
  rw [b_xor, b_xor]
set_option maxHeartbeats 1000000 in
theorem xors_any (SM : SumOk) (A B C : Option Addr) (a b c : List UInt8) (ca cb cc : Nat) (w : World) (ha : Bs w w.heap.size A a) (hb : Bs w w.heap.size B b) (hc : Bs w w.heap.size C c) (la : a.length ≤ maxLen) (lb : b.length ≤ maxLen) (lc : c.length ≤ maxLen) (ea : a.length ≤ ca) (eb : b.length ≤ cb) (ec : c.length ≤ cc) (n : Nat) (hn : n = min (min (min a.length b.length) c.length) 300) :
    Calls Try.prog 5 #[.slice A a.length ca, .slice B b.length cb, .slice C c.length cc] w fun e w' => e = .returned (.bool true) ∧ Below w.heap.size w w' := by
  unfold maxLen at la lb lc
  have S := Lib.hid SM
  have HA := Lib.hid ha
  have HB := Lib.hid hb
  have HC := Lib.hid hc
  have HN := Lib.hid hn
  have hmin := min4 _ _ _ _ hn
  have hmk := fun W => made_bytes n W (by omega)
  have n1 : n ≤ a.length := by omega
  have n2 : n ≤ b.length := by omega
  have n3 : n ≤ c.length := by omega
  have n4 : n ≤ 300 := by omega
  clear SM ha hb hc hn
  go_enter Try.func5, Try.ntmps5
  go_wp2_with fail
  go_loopw [9] (fun i wr => ∃ (k : Nat) (ds : List UInt8), k ≤ n ∧ i = .int .i64 k ∧ ds.length = n ∧ Whole wr w.heap.size ds ∧ Below w.heap.size w wr ∧ ∀ j, j < k → ds.getD j 0 = a.getD j 0 ^^^ b.getD j 0 ^^^ c.getD j 0) (fun i _ => n - (intOf i).toNat)
  case atStart => exact ⟨0, List.replicate n 0, Nat.zero_le _, rfl, by simp, Whole.new _ _ _ (by simp), (Below.refl _ w).alloc (Nat.le_refl _) _, fun j h => absurd h (by omega)⟩
  case round =>
    obtain ⟨k, ds, hk, rfl, hl, hw, hbw, hd⟩ := hrel
    have HD := Lib.hid hd
    have HL := Lib.hid hl
    have HW := Lib.hid hw
    have BW := Lib.hid hbw
    clear hd hl hw hbw
    by_cases hlt : k < n
    · obtain ⟨pA, rfl, ba, xa⟩ := (HA.out.below BW.out) k (by omega)
      obtain ⟨pB, rfl, bb, xb⟩ := (HB.out.below BW.out) k (by omega)
      obtain ⟨pC, rfl, bc, xc⟩ := (HC.out.below BW.out) k (by omega)
      have xd := HW.out.cell k (by rw [HL.out]; exact hlt)
      have fd := HW.out.free k
      have eA := fun v => World.cell?_setCell_other wr ⟨w.heap.size, k, none⟩ (pA.add k) v (fun e => by have := congrArg Addr.block e; rw [add_block] at this; simp at this; omega)
      have eB := fun v => World.cell?_setCell_other wr ⟨w.heap.size, k, none⟩ (pB.add k) v (fun e => by have := congrArg Addr.block e; rw [add_block] at this; simp at this; omega)
      have eC := fun v => World.cell?_setCell_other wr ⟨w.heap.size, k, none⟩ (pC.add k) v (fun e => by have := congrArg Addr.block e; rw [add_block] at this; simp at this; omega)
      have k1 : (0 : Int) ≤ (k : Int) := by omega
      have k2 : (k : Int) < (n : Int) := by omega
      have k3 : (k : Int) < (a.length : Int) := by omega
      have k4 : (k : Int) < (b.length : Int) := by omega
      have k5 : (k : Int) < (c.length : Int) := by omega
      go_wp2_with fail
      go_region_held3 (fun w' => w'.cell? (pA.add k) = some (.int .u8 (a[k].toNat : Int)) ∧ w'.cell? (pB.add k) = some (.int .u8 (b[k].toNat : Int)) ∧ w'.cell? (pC.add k) = some (.int .u8 (c[k].toNat : Int))) (go_keep) (fail)
      have hv : Hid (bits .xor .u8 (bits .xor .u8 (a[k].toNat : Int) (b[k].toNat : Int)) (c[k].toNat : Int) = ((a[k] ^^^ b[k] ^^^ c[k]).toNat : Int)) := by
        show bits .xor .u8 (bits .xor .u8 (a[k].toNat : Int) (b[k].toNat : Int)) (c[k].toNat : Int) = _
        rw [b8_xor, b8_xor]
      go_wp2_with fail
      go_roundw
      case rel =>
        refine ⟨k + 1, ds.set k (a[k] ^^^ b[k] ^^^ c[k]), by omega, by go_num, by rw [List.length_set]; exact HL.out, ?_, ?_, ?_⟩
        · rw [hv.out]; exact (HW.out.put k _).drew
        · exact (BW.out.setCell (p := ⟨w.heap.size, k, none⟩) (Nat.le_refl _) _).drew
        · intro j hj
          by_cases e : j = k
          · subst e
            have h1 : j < ds.length := by rw [HL.out]; omega
            have h2 : j < a.length := by omega
            have h3 : j < b.length := by omega
            have h4 : j < c.length := by omega
            simp [List.getD, h1, h2, h3, h4]
          · rw [← HD.out j (by omega)]
            simp [List.getD, show ¬ k = j by omega]
      case measure => simp [intOf]; omega
    · obtain rfl : k = n := by omega
      have k1 : (0 : Int) ≤ (k : Int) := by omega
      have k3 : (k : Int) ≤ (ca : Int) := by omega
      have k4 : (k : Int) ≤ (cb : Int) := by omega
      have k5 : (k : Int) ≤ (cc : Int) := by omega
      have HAr := Lib.hid ((HA.out.later BW.out).front k)
      have HBr := Lib.hid ((HB.out.later BW.out).front k)
      have HCr := Lib.hid ((HC.out.later BW.out).front k)
      have HDr := Lib.hid HW.out.reads
      have la : Hid ((a.take k).length = k) := by show (a.take k).length = k; rw [List.length_take]; omega
      have lb : Hid ((b.take k).length = k) := by show (b.take k).length = k; rw [List.length_take]; omega
      have lc : Hid ((c.take k).length = k) := by show (c.take k).length = k; rw [List.length_take]; omega
      have l4 : Hid (k ≤ 4096) := by show k ≤ 4096; omega
      have hx := xors_val (Crc.crc 0#32 (a.take k)) (Crc.crc 0#32 (b.take k)) (Crc.crc 0#32 (c.take k))
      rw [← Crc.crc_xors _ _ _ _ (by rw [la.out, lb.out]) (by rw [lb.out, lc.out]), ← xors_is n1 n2 n3 HL.out HD.out] at hx
      go_wp2_with fail
      go_region_held3 (fun w' => Below wr.heap.size wr w') (first | exact (Below.refl _ _).drew | exact below_then (by assumption) (by assumption) | exact (below_then (by assumption) (by assumption)).drew | assumption) (first
        | (go_at_call 6; refine (told_any S.out _).mono ?_; rintro e w' ⟨rfl, hb⟩)
        | (go_at_call 9; with_reducible refine (sum_at S.out (some ⟨w.heap.size, 0, none⟩) ds k k HL.out l4.out _ (HDr.out.later (by assumption))).mono ?_; rintro e w' ⟨rfl, hb⟩)
        | (go_at_call 9; with_reducible refine (sum_at S.out A (a.take k) k ca la.out l4.out _ (HAr.out.later (by assumption))).mono ?_; rintro e w' ⟨rfl, hb⟩)
        | (go_at_call 9; with_reducible refine (sum_at S.out B (b.take k) k cb lb.out l4.out _ (HBr.out.later (by assumption))).mono ?_; rintro e w' ⟨rfl, hb⟩)
        | (go_at_call 9; with_reducible refine (sum_at S.out C (c.take k) k cc lc.out l4.out _ (HCr.out.later (by assumption))).mono ?_; rintro e w' ⟨rfl, hb⟩))
      go_wp2_with fail
      go_ret
      exact ⟨rfl, below_then BW.out (by assumption)⟩
end Go.Proofs.Ytfkadihofjbaoaa
