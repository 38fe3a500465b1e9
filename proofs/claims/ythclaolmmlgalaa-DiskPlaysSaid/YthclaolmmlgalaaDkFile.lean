/- The contracts of what package disk does with one file's bytes: slices.Clone at []byte, front, spoil, crashed. -/
import Derived.Test.YthclaolmmlgalaaDkFind
import Derived.Test.YthclaolmmlgalaaDiskPl
namespace Go.Proofs.Ythclaolmmlgalaa
open Go.RowKit Go.Maps
set_option linter.unusedVariables false

set_option maxRecDepth 20000 in
set_option maxHeartbeats 2000000 in
theorem clone_any (w : World) (A : Option Addr) (l : List UInt8) (c : Nat) (hA : A = none → c = 0) (hb : Bs w w.heap.size A l) (hl : l.length ≤ 1073741824) :
    Calls Try.prog 36 #[.slice A l.length c] w fun e w' => ∃ v, e = .returned v ∧ w'.ownsRow w.heap.size 5 1 v l.length (l.map bv) ∧ Below w.heap.size w w' := by
  have HB := Lib.hid hb
  have HA := Lib.hid hA
  have HL := Lib.hid hl
  have heq : ∀ (W : World) (a : Option Addr) (n c n' c' : Nat), (binOp .eql 40 (.slice a n c) (.slice none n' c')).run Try.prog W = .ok (.bool a.isNone) W := fun W a n c n' c' => Lib.run_eql_slice_nil W _ _ a n c n' c' Try.underlying40
  have BW1 : Hid (Below w.heap.size w (w.alloc (.cells #[] 5))) := (Below.refl _ w).alloc (Nat.le_refl _) _
  clear hb hA hl
  cases A with
  | none =>
    have e : l = [] := by
      cases l with
      | nil => rfl
      | cons x r => obtain ⟨p, e, _⟩ := HB.out 0 (by simp); cases e
    subst e
    obtain rfl := HA.out rfl
    go_enter Try.func36, Try.ntmps36
    go_wp2_with fail
    go_ret
    exact ⟨_, rfl, ⟨rfl, .inl ⟨rfl, rfl⟩⟩, Below.refl _ _⟩
  | some p =>
    go_enter Try.func36, Try.ntmps36
    go_wp2_with (at_builtin; refine wpList_append_own_bytes rfl (.tmp 5) (.tmp 6) rfl w _ [] rfl (own_none w _) BW1.out (some p) c l rfl HA.out HB.out (by have := HL.out; simp; omega) ?_; intro v1 w1 own1 bw1; rw [List.nil_append] at own1)
    go_ret
    exact ⟨v1, rfl, own1, bw1⟩
theorem own_slice {w : World} {base n size : Nat} {t : TypeId} {v : Value} {xs : List Value} (h : w.ownsRow base t size v n xs) : ∃ A c, v = .slice A n c ∧ (A = none → c = 0) ∧ n ≤ c := by
  rcases h.2 with ⟨rfl, h0⟩ | ⟨g, cap, cur, rfl, hg, hb, hc, r⟩
  · exact ⟨none, 0, by rw [h0], fun _ => rfl, by omega⟩
  · exact ⟨_, cap, rfl, (fun e => nomatch e), hc⟩
theorem row_base {w : World} {base base' n size : Nat} {t : TypeId} {v : Value} {xs : List Value} (h : w.ownsRow base t size v n xs) (hb : base' ≤ base) : w.ownsRow base' t size v n xs := by
  obtain ⟨h1, h2⟩ := h
  refine ⟨h1, ?_⟩
  rcases h2 with x | ⟨g, cap, cur, rfl, hg, r⟩
  · exact .inl x
  · exact .inr ⟨g, cap, cur, rfl, Nat.le_trans hb hg, r⟩
theorem row_new {w : World} {base n size : Nat} {t : TypeId} {v : Value} {xs : List Value} (h : w.ownsRow base t size v n xs) {k : Nat} (hk : v.ownBlock = some k) : base ≤ k ∧ k < w.heap.size := by
  rcases h.2 with ⟨rfl, h0⟩ | ⟨g, cap, cur, rfl, hg, hb, r⟩
  · cases hk
  · injection hk with e
    subst e
    exact ⟨hg, (Array.getElem?_eq_some_iff.1 hb).1⟩
theorem cells_set2 {w : World} {g : Nat} {a b : Value} {t : TypeId} {fr : Nat × Nat} (h : w.heap[g]? = some (.cells #[a, b] t fr)) (x y : Value) : ((w.setCell ⟨g, 0, none⟩ x).setCell ⟨g, 1, none⟩ y).heap[g]? = some (.cells #[x, y] t fr) := by
  simp [World.setCell, Array.getElem?_modify, h]
set_option maxRecDepth 20000 in
set_option maxHeartbeats 2000000 in
theorem front_any (w : World) (A : Option Addr) (l : List UInt8) (c : Nat) (y : Int) (k : Nat) (hk : k ≤ l.length) (hA : A = none → c = 0) (hc : l.length ≤ c) (hb : Bs w w.heap.size A l) (hl : l.length ≤ 1073741824) (n : Nat) (hn : l.length = n) :
    Calls Try.prog 40 #[.agg #[.slice A n c, .int .i64 y], .int .i64 k] w fun e w' => ∃ v, e = .returned (.agg #[v, .int .i64 k]) ∧ w'.ownsRow w.heap.size 5 1 v k ((l.take k).map bv) ∧ Below w.heap.size w w' := by
  have HB := Lib.hid hb
  have HA := Lib.hid hA
  have HL := Lib.hid hl
  have hkn : (k : Int) ≤ (n : Int) := by omega
  have k0 : (0 : Int) ≤ (k : Int) := by omega
  have hkc : (k : Int) ≤ (c : Int) := by omega
  have hsl : ∀ W : World, (Instr.slice 40 (.slice A n c) none (some (.int .i64 (k : Int))) none).run Try.prog W = .ok (.slice A k c) W := fun W => by
    have he : Try.prog.elem 40 = 5 := by kernel_rfl
    have ht : Try.prog.underlying 40 = some (.slice (Try.prog.elem 40)) := by rw [he]; exact Try.underlying40
    have hz : (sizeOf 5).run Try.prog W = .ok 1 W := by kernel_rfl
    rw [run_slice_h W 40 A n c ht .i64 k k0 hkc, he, hz]
    cases A <;> simp [Result.andThen, sliced, Addr.add]
  have hlen : (l.take k).length = k := by simp; omega
  have HLEN := Lib.hid hlen
  have HK := Lib.hid hk
  clear hb hA hl hn hk hc hlen
  go_enter Try.func40, Try.ntmps40
  go_wp2_with fail
  go_at_call 36
  have b1 : Below w.heap.size w ((w.alloc (.cells #[.slice A n c, .int .i64 y] 57)).alloc (.cells #[.slice none 0 0, .int .i64 0] 57)) := ((Below.refl _ w).alloc (Nat.le_refl _) _).alloc (by simp) _
  have hcl := clone_any _ A (l.take k) c HA.out ((HB.out.front k).later b1) (by have := HL.out; have := HK.out; have := HLEN.out; omega)
  rw [HLEN.out] at hcl
  refine hcl.mono ?_
  rintro e w1 ⟨v, rfl, ho, hb1⟩
  obtain ⟨A1, c1', rfl, -, -⟩ := own_slice ho
  have HO := Lib.hid ho
  have HB1 := Lib.hid hb1
  have h0 : w1.heap[w.heap.size]? = some (.cells #[.slice A n c, .int .i64 y] 57 (0, 0)) := by
    rw [hb1.block _ (by simp; omega), heap_alloc_old _ _ (by simp)]; exact heap_alloc_new _ _
  have h1 : w1.heap[w.heap.size + 1]? = some (.cells #[.slice none 0 0, .int .i64 0] 57 (0, 0)) := by
    rw [hb1.block _ (by simp)]
    have e : (w.alloc (.cells #[.slice A n c, .int .i64 y] 57)).heap.size = w.heap.size + 1 := by simp
    rw [← e]; exact heap_alloc_new _ _
  have H1 := Lib.hid h1
  have c0 : w1.cell? ⟨w.heap.size + 1, 0, none⟩ = some (.slice none 0 0) := by simp [World.cell?, h1]
  have c1 : w1.cell? ⟨w.heap.size + 1, 1, none⟩ = some (.int .i64 0) := by simp [World.cell?, h1]
  have f0 : w1.frozen? ⟨w.heap.size + 1, 0, none⟩ = false := by simp [World.frozen?, h1]
  have f1 : w1.frozen? ⟨w.heap.size + 1, 1, none⟩ = false := by simp [World.frozen?, h1]
  clear ho hb1 h0 h1 hcl b1
  go_wp2_with fail
  refine ⟨rfl, _, res_file1 (p := 4) rfl _ _ (w.heap.size + 1) _ _ _ _ rfl (cells_set2 H1.out _ _), _, rfl, ?_, ?_⟩
  · refine row_same (row_base HO.out (by simp; omega)) fun b hb => ?_
    have hne : b ≠ w.heap.size + 1 := by have := (row_new HO.out hb).1; simp at this; omega
    rw [Below.heap_setCell _ _ _ _ hne, Below.heap_setCell _ _ _ _ hne]
  · exact ((((Below.refl _ w).alloc (Nat.le_refl _) _).alloc (by simp) _).trans (HB1.out.mono (by simp; omega))).setCell (by simp) _ |>.setCell (by simp) _
/-- Block g is a row of the disk's own, cap cells long, whose first cells are the bytes l. -/
def RowG (w : World) (g cap : Nat) (l : List UInt8) : Prop := w.ownsRow 0 5 1 (.slice (some ⟨g, 0, none⟩) l.length cap) l.length (l.map bv)
theorem RowG.own {w : World} {g cap : Nat} {l : List UInt8} (h : RowG w g cap l) : Own w g l := by
  rcases h.2 with ⟨e, _⟩ | ⟨g', cap', cur, e, hg, hb, hc, _, hs, ht⟩
  · cases e
  · injection e with e1 e2 e3
    injection e1 with e1
    injection e1 with e1
    subst e1
    refine ⟨cur, hb, fun i hi => ?_⟩
    have := congrArg (fun x => x[i]?) ht
    simp [hi] at this
    rw [← this]
theorem RowG.put {w : World} {g cap : Nat} {l : List UInt8} (h : RowG w g cap l) (i : Nat) (hi : i < l.length) (c : UInt8) : RowG (w.setCell ⟨g, i, none⟩ (.int .u8 (c.toNat : Int))) g cap (l.set i c) := by
  rcases h.2 with ⟨e, _⟩ | ⟨g', cap', cur, e, hg, hb, hc, hm, hs, ht⟩
  · cases e
  · injection e with e1 e2 e3
    injection e1 with e1
    injection e1 with e1
    subst e1 e3
    refine ⟨by simp, .inr ⟨g, cap, cur.setIfInBounds i (bv c), by rw [List.length_set], Nat.zero_le _, by simp [World.setCell, Array.getElem?_modify, hb, bv], by rw [List.length_set]; exact hc, hm, by rw [Array.size_setIfInBounds]; exact hs, ?_⟩⟩
    rw [Array.toList_setIfInBounds, List.length_set, List.take_set, ht, List.map_set]
theorem RowG.of_row {w : World} {base : Nat} {v : Value} {l : List UInt8} {n : Nat} (h : w.ownsRow base 5 1 v n (l.map bv)) (hl : 1 ≤ n) : ∃ g cap, v = .slice (some ⟨g, 0, none⟩) n cap ∧ l.length = n ∧ base ≤ g ∧ g < w.heap.size ∧ n ≤ cap ∧ RowG w g cap l := by
  have hn : n = l.length := by have := h.1; simp at this; omega
  subst hn
  rcases h.2 with ⟨rfl, h0⟩ | ⟨g, cap, cur, rfl, hg, hb, hc, r⟩
  · omega
  · exact ⟨g, cap, rfl, rfl, hg, (Array.getElem?_eq_some_iff.1 hb).1, hc, row_base h (Nat.zero_le _)⟩
theorem RowG.row {w : World} {g cap base : Nat} {l : List UInt8} {n : Nat} (h : RowG w g cap l) (hn : l.length = n) (hb : base ≤ g) : w.ownsRow base 5 1 (.slice (some ⟨g, 0, none⟩) n cap) n (l.map bv) := by
  subst hn
  obtain ⟨h1, h2⟩ := h
  refine ⟨h1, ?_⟩
  rcases h2 with ⟨e, _⟩ | ⟨g', cap', cur, e, hg, r⟩
  · cases e
  · injection e with e1 e2 e3
    injection e1 with e1
    injection e1 with e1
    subst e1 e3
    exact .inr ⟨g, cap, cur, rfl, hb, r⟩
set_option maxRecDepth 20000 in
theorem spoil_zero (w : World) (A : Option Addr) (c : Nat) :
    Calls Try.prog 45 #[.slice A 0 c] w fun e w' => e = .returned (.tuple #[]) ∧ w = w' := by
  go_enter Try.func45, Try.ntmps45
  go_wp2_with fail
  refine wp_loop_rounds 1 ?_
  rw [rounds_succ]
  go_wp2_with fail
  go_end0
  exact ⟨rfl, rfl⟩
set_option maxRecDepth 20000 in
set_option maxHeartbeats 2000000 in
theorem spoil_any (w : World) (g : Nat) (l : List UInt8) (k n c : Nat) (hk : k ≤ l.length) (hn : l.length = k + n) (cap : Nat) (ho : RowG w g cap l) (hl : l.length ≤ 1073741824) :
    Calls Try.prog 45 #[.slice (some ⟨g, k, none⟩) n c] w fun e w' => e = .returned (.tuple #[]) ∧ RowG w' g cap (DiskM.garbled k 0 l) ∧ Only (fun b => b = g) w w' := by
  have HO := Lib.hid ho
  have HN := Lib.hid hn
  have n9 : (n : Int) ≤ 1073741824 := by omega
  clear ho hn hk
  go_enter Try.func45, Try.ntmps45
  go_wp2_with fail
  go_loopw [5] (fun i wr => ∃ (j : Nat) (m : List UInt8), j ≤ n ∧ i = .int .i64 j ∧ m.length = l.length ∧ (∀ q (h : q < m.length) (h' : q < l.length), m[q] = if k ≤ q ∧ q < k + j then l[q] ^^^ 0xa5 else l[q]) ∧ RowG wr g cap m ∧ Only (fun b => b = g) w wr) (fun i _ => n - (intOf i).toNat)
  case atStart => exact ⟨0, l, Nat.zero_le _, rfl, rfl, fun q h h' => by rw [if_neg (by omega)], HO.out, Only.refl _ _⟩
  case round =>
    obtain ⟨j, m, hj, rfl, hm, hq, ho, hw⟩ := hrel
    have HM := Lib.hid hm
    have HQ := Lib.hid hq
    have HO2 := Lib.hid ho
    have HW := Lib.hid hw
    clear hm hq ho hw
    have j0 : (0 : Int) ≤ (j : Int) := by omega
    by_cases hlt : j < n
    · have j1 : (j : Int) < (n : Int) := by omega
      have hkj : k + j < m.length := by have := HM.out; have := HN.out; omega
      obtain ⟨x, hx⟩ : ∃ x, x = m[k + j] := ⟨_, rfl⟩
      have cx := HO2.out.own.cell (k + j) hkj
      have fx := HO2.out.own.free (k + j)
      rw [← hx] at cx
      have HX := Lib.hid hx
      have hb : bits .xor .u8 (x.toNat : Int) 165 = ((x ^^^ 0xa5).toNat : Int) := b8_xor x 0xa5
      have HP := Lib.hid (HO2.out.put (k + j) hkj (x ^^^ 0xa5))
      clear hx
      go_wp2_with fail
      go_roundw
      case rel =>
        have e : (x ^^^ 0xa5).toNat = x.toNat ^^^ 165 := by rw [UInt8.toNat_xor]; rfl
        rw [e] at HP
        refine ⟨j + 1, m.set (k + j) (x ^^^ 0xa5), hlt, by go_num, by rw [List.length_set]; exact HM.out, fun q h h' => ?_, HP.out, HW.out.setCell (.inl rfl) _⟩
        rw [List.getElem_set]
        have hq := HQ.out
        split
        · rename_i e
          subst e
          rw [if_pos (by omega), HX.out, hq _ hkj h', if_neg (by omega)]
        · rename_i e
          rw [hq q (by simpa using h) h']
          by_cases z : k ≤ q ∧ q < k + j
          · rw [if_pos z, if_pos (by omega)]
          · rw [if_neg z, if_neg (by omega)]
      case measure => simp [intOf]; omega
    · have j1 : (n : Int) ≤ (j : Int) := by omega
      go_wp2_with fail
      go_end0
      have e : DiskM.garbled k 0 l = m := by
        apply List.ext_getElem
        · rw [garbled_length]; exact HM.out.symm
        · intro q h h'
          have hl' : q < l.length := by rw [garbled_length] at h; exact h
          rw [garbled_at _ _ _ _ hl' h, HQ.out q h' hl', Nat.zero_add]
          have := HN.out
          by_cases z : k ≤ q
          · rw [if_pos z, if_pos (by omega)]
          · rw [if_neg z, if_neg (by omega)]
      rw [e]
      exact ⟨rfl, HO2.out, HW.out⟩
end Go.Proofs.Ythclaolmmlgalaa
