/- What eight shifts make of each byte: crc.shifted and crc.shiftedBytes return the words that they should; memory that was there stays. -/
import Derived.Test.YtmikdnjjnadimaaCrcUp
import Derived.Deep.RegionHeld3
import Derived.Deep.RegionWith
namespace Go.Proofs.Ytmikdnjjnadimaa
open Go.RowKit
set_option linter.unusedVariables false
theorem shifted_ok (x : BitVec 32) (w : World) :
    Calls Try.prog 25 #[.int .u32 (x.toNat : Int)] w fun e w' => e = .returned (.int .u32 ((Crc.step x).toNat : Int)) ∧ w = w' := by
  have ho := b_odd x
  cases h0 : x.getLsbD 0
  · rw [h0, if_neg (by decide)] at ho
    have K := step_even h0
    clear h0
    go_enter Try.func25, Try.ntmps25
    go_wp2_with fail
    go_ret
    exact ⟨ret_u32 (by rw [K]; exact b_half x), rfl⟩
  · rw [h0, if_pos rfl] at ho
    have K := step_odd h0
    clear h0
    go_enter Try.func25, Try.ntmps25
    go_wp2_with fail
    go_ret
    exact ⟨ret_u32 (by rw [K]; exact b_poly x), rfl⟩
def zeros : Array Value := (List.replicate 256 (Value.int .u32 0)).toArray
set_option maxRecDepth 100000 in
theorem zero256 (W : World) : (zeroValue 52).run Try.prog W = .ok (.agg zeros) W := by kernel_rfl
/-- A word as a value. -/
def v32 (x : BitVec 32) : Value := .int .u32 (x.toNat : Int)
/-- A block that is an array of words. -/
def Tab (w : World) (g : Nat) (xs : List (BitVec 32)) : Prop := w.heap[g]? = some (.cells (xs.map v32).toArray 52 (0, 0))
theorem Tab.cell {w : World} {g : Nat} {l : List (BitVec 32)} (h : Tab w g l) (i : Nat) (hi : i < l.length) : w.cell? ⟨g, i, none⟩ = some (.int .u32 (l[i].toNat : Int)) := by
  unfold Tab at h
  simp [World.cell?, h, v32, hi]
theorem Tab.word {w : World} {g : Nat} {l : List (BitVec 32)} (h : Tab w g l) (i : Nat) (hi : i < l.length) : ∃ x, x = l.getD i 0#32 ∧ w.cell? ⟨g, i, none⟩ = some (.int .u32 (x.toNat : Int)) :=
  ⟨l[i], by simp [List.getD, hi], h.cell i hi⟩
theorem Tab.free {w : World} {g : Nat} {l : List (BitVec 32)} (h : Tab w g l) (i : Nat) : w.frozen? ⟨g, i, none⟩ = false := by
  unfold Tab at h
  simp [World.frozen?, h]
theorem Tab.put {w : World} {g : Nat} {l : List (BitVec 32)} (h : Tab w g l) (i : Nat) (c : BitVec 32) : Tab (w.setCell ⟨g, i, none⟩ (.int .u32 (c.toNat : Int))) g (l.set i c) := by
  unfold Tab at h ⊢
  simp [World.setCell, Array.getElem?_modify, h]
  rfl
theorem Tab.far {w : World} {g : Nat} {l : List (BitVec 32)} (h : Tab w g l) {p : Addr} (hp : g ≠ p.block) (u : Value) : Tab (w.setCell p u) g l := (Below.heap_setCell w p u g hp).trans h
def none256 : List (BitVec 32) := List.replicate 256 0#32
theorem zeros_is : zeros = (none256.map v32).toArray := by
  unfold zeros none256
  rw [List.map_replicate]
  rfl
theorem Tab.first (w : World) (o : Obj) : Tab ((w.alloc (.cells zeros 52)).alloc o) w.heap.size none256 := by
  unfold Tab
  rw [heap_alloc2_old, zeros_is]
theorem Tab.second (w : World) (o : Obj) : Tab ((w.alloc o).alloc (.cells zeros 52)) (w.heap.size + 1) none256 := by
  unfold Tab
  rw [heap_alloc2_new, zeros_is]
theorem info256 : (Try.prog.info? 52).map (·.size) = some 256 := by kernel_rfl
/-- The table after k rounds of the first loop, of the second. -/
def tabX : Nat → List (BitVec 32)
  | 0 => none256
  | k + 1 => (tabX k).set (128 / 2 ^ k) (Crc.steps (k + 1) 1#32)
def lo (k : Nat) : Nat := k &&& (k - 1)
def low (k : Nat) : Nat := k - (k &&& (k - 1))
def tabY : Nat → List (BitVec 32)
  | 0 => tabX 8
  | k + 1 => let t := tabY k; t.set k (t.getD (lo k) 0#32 ^^^ t.getD (low k) 0#32)
def tabT : List (BitVec 32) := (List.range 256).map fun k => Crc.steps 8 (BitVec.ofNat 32 k)
set_option maxRecDepth 100000 in
theorem tabY_is : tabY 256 = tabT := by decide +kernel
theorem tabT_size : (tabT.map v32).toArray.size = 256 := by simp [tabT]
theorem tabY_put {k : Nat} {x y : BitVec 32} (hx : x = (tabY k).getD (lo k) 0#32) (hy : y = (tabY k).getD (low k) 0#32) : tabY (k + 1) = (tabY k).set k (x ^^^ y) := by subst hx hy; rfl
theorem Tab.drew {w : World} {g : Nat} {l : List (BitVec 32)} (h : Tab w g l) : Tab w.drew g l := h
theorem below_setRow' {B g : Nat} {w0 w : World} (hb : Below B w0 w) (hBg : B ≤ g) (cs : Array Value) : Below B w0 (w.setRow g cs) :=
  hb.trans ⟨rfl, rfl, rfl, by simp, fun k hk => setRow_other _ _ _ _ (by omega)⟩
theorem tabX_length : ∀ k, (tabX k).length = 256
  | 0 => List.length_replicate ..
  | k + 1 => by rw [tabX, List.length_set]; exact tabX_length k
theorem tabY_length : ∀ k, (tabY k).length = 256
  | 0 => tabX_length 8
  | k + 1 => by simp only [tabY, List.length_set]; exact tabY_length k
theorem lo_lt {k : Nat} (h : k < 256) : lo k < 256 := Nat.lt_of_le_of_lt Nat.and_le_left h
theorem low_lt {k : Nat} (h : k < 256) : low k < 256 := Nat.lt_of_le_of_lt (Nat.sub_le _ _) h
set_option maxRecDepth 100000 in
theorem lo_all : ∀ k : Fin 256, bits .and .i64 (k.val : Int) ((k.val : Int) - 1) = (lo k.val : Int) ∧ bits .and .i64 (k.val : Int) (-(k.val : Int)) = (low k.val : Int) := by decide +kernel
theorem steps_snoc (k : Nat) (x : BitVec 32) : Crc.steps (k + 1) x = Crc.step (Crc.steps k x) := by rw [Crc.steps_add]; rfl
set_option maxRecDepth 100000 in
set_option maxHeartbeats 1000000 in
theorem table_any (w : World) :
    Calls Try.prog 24 #[] w fun e w' => e = .returned (.agg (tabT.map v32).toArray) ∧ Below w.heap.size w w' := by
  have hal := zero256
  go_enter Try.func24, Try.ntmps24
  go_wp2_with fail
  go_loopw [2, 3] (fun r b wr => ∃ (k : Nat) (bb : Int), k ≤ 8 ∧ bb = ((128 / 2 ^ k : Nat) : Int) ∧ r = .int .u32 ((Crc.steps k 1#32).toNat : Int) ∧ b = .int .i64 bb ∧ Tab wr (w.heap.size + 1) (tabX k) ∧ Tab wr w.heap.size none256 ∧ Below w.heap.size w wr) (fun _ b _ => (intOf b).toNat)
  case atStart => exact ⟨0, 128, by omega, rfl, rfl, rfl, Tab.second _ _, Tab.first _ _, ((Below.refl _ w).alloc (Nat.le_refl _) _).alloc (by simp) _⟩
  case round =>
    obtain ⟨k, bb, hk, hbb, rfl, rfl, ht, ht0, hbw⟩ := hrel
    have HT := Lib.hid ht
    have HT0 := Lib.hid ht0
    have HBW := Lib.hid hbw
    clear ht ht0 hbw
    by_cases hlt : k < 8
    · generalize hy : 128 / 2 ^ k = y at *
      subst hbb
      have hy1 : 0 < y := by rw [← hy]; exact Nat.div_pos (Nat.le_trans (Nat.pow_le_pow_right (by decide) (show k ≤ 7 by omega)) (by decide)) (Nat.pow_pos (by decide))
      have hy2 : y < 256 := by rw [← hy]; exact Nat.lt_of_le_of_lt (Nat.div_le_self _ _) (by decide)
      have hy3 : y / 2 = 128 / 2 ^ (k + 1) := by rw [← hy, Nat.div_div_eq_div_mul, Nat.pow_succ]
      have hk1 : y < (tabX k).length := by rw [tabX_length]; exact hy2
      have xc := HT.out.cell y hk1
      have xf := HT.out.free y
      have m1 : (0 : Int) ≤ (y : Int) := by omega
      have m2 : (y : Int) < 256 := by omega
      have m3 : (0 : Int) < (y : Int) := by omega
      have m4 : IntKind.i64.wrap ((y : Int).tdiv 2) = ((y / 2 : Nat) : Int) := by
        rw [Int.tdiv_eq_ediv_of_nonneg m1, show (y : Int) / 2 = ((y / 2 : Nat) : Int) by omega]
        simp [IntKind.wrap, IntKind.bits, IntKind.signed]
        omega
      have HY := Lib.hid hy
      have HY3 := Lib.hid hy3
      clear hy hy3
      go_wp2_with (go_at_call 25; refine (shifted_ok _ _).mono ?_; rintro e w' ⟨rfl, rfl⟩)
      go_roundw
      case rel => exact ⟨k + 1, _, hlt, by rw [← HY3.out]; rfl, val_u32 (by rw [steps_snoc]), rfl, by rw [tabX, HY.out, steps_snoc]; exact HT.out.put y _, HT0.out.far (by simp) _, HBW.out.setCell (by simp) _⟩
      case measure => simp [intOf]; omega
    · have e8 : k = 8 := by omega
      subst e8
      obtain ⟨rfl, hbb⟩ : bb = 0 ∧ True := ⟨by rw [hbb]; rfl, trivial⟩
      clear hbb
      go_wp2_with fail
      go_loopw [14] (fun i wr => ∃ k : Nat, k ≤ 256 ∧ i = .int .i64 k ∧ Tab wr (w.heap.size + 1) (tabY k) ∧ Tab wr w.heap.size none256 ∧ Below w.heap.size w wr) (fun i _ => 256 - (intOf i).toNat)
      case atStart => exact ⟨0, by omega, rfl, HT.out, HT0.out, HBW.out⟩
      case round =>
        obtain ⟨k, hk, rfl, ht, ht0, hbw⟩ := hrel
        have JT := Lib.hid ht
        have JT0 := Lib.hid ht0
        have JBW := Lib.hid hbw
        clear ht ht0 hbw
        by_cases hlt : k < 256
        · have n1 : (0 : Int) ≤ (k : Int) := by omega
          have n2 : (k : Int) < 256 := by omega
          obtain ⟨f1, f2⟩ := lo_all ⟨k, hlt⟩
          have hl : k < (tabY k).length := by rw [tabY_length]; exact hlt
          have c0 := JT.out.cell k hl
          obtain ⟨x0, ex0⟩ : ∃ x, x = (tabY k)[k] := ⟨_, rfl⟩
          rw [← ex0] at c0
          obtain ⟨x1, e1, c1⟩ := JT.out.word (lo k) (by rw [tabY_length]; exact lo_lt hlt)
          obtain ⟨x2, e2, c2⟩ := JT.out.word (low k) (by rw [tabY_length]; exact low_lt hlt)
          have E1 := Lib.hid e1
          have E2 := Lib.hid e2
          have F3 := Lib.hid (b_xor x1 x2)
          clear ex0 hl e1 e2
          have xf := JT.out.free k
          have l1 : ((lo k : Nat) : Int) < 256 := by have := lo_lt hlt; omega
          have l2 : ((low k : Nat) : Int) < 256 := by have := low_lt hlt; omega
          have z1 : (0 : Int) ≤ ((lo k : Nat) : Int) := by omega
          have z2 : (0 : Int) ≤ ((low k : Nat) : Int) := by omega
          dsimp only at f1 f2
          have g1 : IntKind.i64.wrap ((k : Int) - 1) = (k : Int) - 1 := by simp [IntKind.wrap, IntKind.bits, IntKind.signed]; omega
          have g2 : IntKind.i64.wrap (-(k : Int)) = -(k : Int) := by simp [IntKind.wrap, IntKind.bits, IntKind.signed]; omega
          go_wp2_with fail
          go_region_with (fail)
          all_goals
            go_wp2_with fail
            go_roundw
            case rel => exact ⟨k + 1, by omega, by go_num, by rw [tabY_put E1.out E2.out, F3.out]; exact (JT.out.put k _).drew, (JT0.out.far (by simp) _).drew, (JBW.out.setCell (by simp) _).drew⟩
            case measure => simp [intOf]; omega
        · obtain rfl : k = 256 := by omega
          rw [tabY_is] at JT
          have hi : (Try.prog.info? 52).map (·.size) = some (tabT.map v32).toArray.size := by rw [tabT_size]; exact info256
          have ho : ((none256).map v32).toArray.size = (tabT.map v32).toArray.size := by rw [tabT_size]; simp [none256]
          have h1 : (tabT.map v32).toArray.all (·.oneCell') = true := by
            rw [Array.all_eq_true_iff_forall_mem]
            intro v hv
            obtain ⟨c, _, rfl⟩ := List.mem_map.1 (by simpa using hv)
            rfl
          have HI := Lib.hid hi
          have HO := Lib.hid ho
          have H1 := Lib.hid h1
          clear hi ho h1
          go_wp2_with fail
          refine wp_load_row 52 (.tmp 1) rfl (w.heap.size + 1) rfl 52 _ (0, 0) _ JT.out Try.underlying52 rfl HI.out ?_
          go_wp2_with (first | (refine wpList_store_row rfl 52 (.tmp 0) (.tmp 33) rfl w.heap.size (tabT.map v32).toArray rfl rfl 52 _ JT0.out HI.out HO.out H1.out ?_) | (refine wp_store_row 52 (.tmp 0) (.tmp 33) rfl w.heap.size (tabT.map v32).toArray rfl rfl 52 _ JT0.out HI.out HO.out H1.out ?_))
          refine ⟨rfl, _, results_cell_row (P := Try.prog) (fn := Try.f24) (p := 0) (ty := 52) rfl _ _ w.heap.size 52 _ (0, 0) _ rfl (setRow_heap _ _ _ _ _ _ JT0.out) Try.underlying52 rfl HI.out, rfl, ?_⟩
          exact below_setRow' JBW.out (Nat.le_refl _) _
end Go.Proofs.Ytmikdnjjnadimaa
