/- Functions that go through texts: what is asked of one; the closures of package value and of slices.Values. -/
import Derived.Test.YtgokjdlemfaagaaVlLen
import Derived.RangeFuncNested
import Derived.RangeFuncBound
import Derived.RangeFuncCalls
import Derived.RangeFuncLeaves
import Derived.Shelf.Abstract
import Derived.Shelf.RegionOpen
import Derived.OwnWalkIn
import Derived.TacticsInMore
import Derived.LoopNIn
import Derived.LoopIn
namespace Go.Proofs.Ytgokjdlemfaagaa
open Go.RowKit Go.Shelf
set_option linter.unusedVariables false
attribute [local go_sem] Oper.semAt_some
/-- Every block of cells that is not among T's stays. -/
def Keep (T : Nat → Prop) (W W' : World) : Prop := W.heap.size ≤ W'.heap.size ∧ ∀ k o, ¬ T k → o.isCells = true → W.heap[k]? = some o → W'.heap[k]? = some o
section
variable {T : Nat → Prop} {W W' X : World}
theorem Keep.refl (T : Nat → Prop) (W : World) : Keep T W W := ⟨Nat.le_refl _, fun _ _ _ _ h => h⟩
theorem Keep.trans (h : Keep T W W') (k : Keep T W' X) : Keep T W X := ⟨Nat.le_trans h.1 k.1, fun i o hi ho e => k.2 i o hi ho (h.2 i o hi ho e)⟩
theorem Keep.of_below (h : Below W.heap.size W W') : Keep T W W' := ⟨h.size, fun k o _ _ e => (h.block k (Array.getElem?_eq_some_iff.1 e).1).trans e⟩
theorem Keep.setCell (p : Addr) (hp : T p.block) (v : Value) : Keep T W (W.setCell p v) := ⟨(KeepsWalks.setCell W p v).size, fun k o hk _ e => (Below.heap_setCell _ _ _ k (fun q => hk (by rw [q]; exact hp))).trans e⟩
theorem Keep.putObj {l : Nat} {o o' : Obj} (h : W.heap[l]? = some o) (hc : o.isCells = false) : Keep T W (W.putObj l o') := ⟨(grownBy_putObj' W l o').size, fun k ob _ hob e => by
  have hne : k ≠ l := fun q => by subst q; rw [h] at e; cases e; rw [hc] at hob; cases hob
  exact ((grownBy_putObj' W l o').block k (Array.getElem?_eq_some_iff.1 e).1 (fun q => hne (Option.some.inj q))).trans e⟩
theorem Keep.cell (h : Keep T W W') {p : Addr} {v : Value} (hp : ¬ T p.block) (hc : W.cell? p = some v) : W'.cell? p = some v := by
  obtain ⟨o, ho, hi⟩ := cells_of_cell hc
  rw [World.cell?_of_block (w := W) ((h.2 p.block o hp hi ho).trans ho.symm)]
  exact hc
theorem Keep.cells (h : Keep T W W') {B : Nat} {A : Option Addr} {cs : List Value} (hT : ∀ k, T k → ¬ k < B) (hc : Cells W B A cs) : Cells W' B A cs := fun i hi => by
  obtain ⟨p, e, hp, hc⟩ := hc i hi
  exact ⟨p, e, hp, h.cell (by rw [add_block]; exact fun q => hT _ q hp) hc⟩
theorem cell_more {W : World} {p : Addr} {v : Value} (o : Obj) (h : W.cell? p = some v) : (W.alloc o).cell? p = some v := by
  obtain ⟨b, hb, -⟩ := cells_of_cell h
  exact (World.cell?_alloc_lt W o p (Array.getElem?_eq_some_iff.1 hb).1).trans h
theorem grown_of (h : Below W.heap.size W W') : W.grownBy W' none := ⟨h.os, h.tape, h.output, h.size, fun k hk _ => h.block k hk⟩
end
theorem keep_t {T : Nat → Prop} {A B C : World} (h : Keep T A B) (k : Keep T B C) : Keep T A C := h.trans k
theorem keep_b {T : Nat → Prop} {n : Nat} (W : World) (l : Nat) (o o' : Obj) (_ : n ≤ l) (h : W.heap[l]? = some o) (hc : o.isCells = false) (_ : o.isWalk = false) : Keep T W (W.putObj l o') := Keep.putObj h hc
abbrev Steps_ (T : Nat → Prop) (gf : Nat) (lb : Array Value) (xs : List ByteArray) (w : World) : Prop :=
  SeqStopsK Fence.wide 7 Try.prog gf lb (fun x : ByteArray => #[Value.string x]) (Keep T) (fun ys => ys = xs) (fun pre => pre <+: xs) xs.length w
/-- f goes through the texts xs, whatever its caller's rounds write but what f uses itself. -/
def Goes (w : World) (U : Nat → Prop) (f : Value) (xs : List ByteArray) : Prop :=
  ∃ gf lb, f = .func (.func gf) #[] lb ∧ Enters Try.prog gf ∧ ∀ (T : Nat → Prop) (w' : World), Below w.heap.size w w' → (∀ k, T k → ¬ U k ∧ k < w'.heap.size) → Steps_ T gf lb xs w'
theorem Goes.later {w w' : World} {U : Nat → Prop} {f : Value} {xs : List ByteArray} (h : Goes w U f xs) (hb : Below w.heap.size w w') : Goes w' U f xs := by
  obtain ⟨gf, lb, e, he, h⟩ := h
  exact ⟨gf, lb, e, he, fun T w2 h2 hT => h T w2 (below_then hb h2) hT⟩
theorem take_more {α : Type} (xs : List α) (k : Nat) (h : k < xs.length) : xs.take (k + 1) = xs.take k ++ [xs[k]] := (List.take_append_getElem h).symm

set_option maxRecDepth 100000 in
set_option maxHeartbeats 2000000 in
theorem values1_in (T : Nat → Prop) (l Bs B : Nat) (A : Option Addr) (cap n : Nat) (h62 : n ≤ 1048576) (xs : List ByteArray) (hn : xs.length = n) (J Jx : List ByteArray → World → Prop) (W : World) (hT : ∀ k, T k → ¬ k < B)
    (hY : ∀ pre x W1, J pre W1 → pre.length < n → YieldAt Fence.wide (7 - 1) Try.prog l #[.string x] W1 fun e W' =>
      (e = .returned (.bool true) ∧ J (pre ++ [x]) W' ∧ Keep T W1 W') ∨ (e = .returned (.bool false) ∧ Jx (pre ++ [x]) W'))
    (hBs : W.cell? ⟨Bs, 0, none⟩ = some (.slice A n cap)) (hc : Cells W B A (lcells xs)) (h0 : J [] W) :
    CallsIn Fence.wide 7 Try.prog 52 #[.func (.yield l) #[] #[], .pointer (some ⟨Bs, 0, none⟩)] W fun e W' => (∃ v, e = .returned v) ∧ ((∃ ys, ys = xs ∧ J ys W') ∨ (∃ pre, pre <+: xs ∧ Jx pre W')) := by
  have HC := Lib.hid hc
  have HN := Lib.hid hn
  have n9 : (n : Int) ≤ 1048576 := by omega
  have n0 : (0 : Int) ≤ (n : Int) := by omega
  clear hc hn h62
  refine callsIn_of_wp Try.func52 rfl trivial ?_ rfl
  simp only [Try.ntmps52, List.size_toArray, List.length_cons, List.length_nil, Nat.reduceAdd, Nat.reduceSub, Array.replicate_succ, Array.replicate_zero, List.push_toArray, List.append_toArray, List.nil_append, List.cons_append]
  gi_wp2
  gi_loopw [7] (fun i wr => ∃ k : Nat, k ≤ n ∧ i = .int .i64 k ∧ J (xs.take k) wr ∧ Keep T W wr) (fun i _ => n - (intOf i).toNat)
  case atStart => exact ⟨0, Nat.zero_le _, rfl, h0, Keep.refl _ _⟩
  case round =>
    obtain ⟨k, hk, rfl, hJs, hnx⟩ := hrel
    have k0 : (0 : Int) ≤ (k : Int) := by omega
    by_cases hlt : k < n
    · have k1 : (k : Int) < (n : Int) := by omega
      have hx : k < xs.length := by rw [HN.out]; exact hlt
      obtain ⟨p, rfl, hp, hcx⟩ := (hnx.cells hT HC.out).at1 k hx
      have tk := Lib.hid (take_more xs k hx)
      obtain ⟨x, hxe⟩ : ∃ x, xs[k] = x := ⟨_, rfl⟩
      rw [hxe] at hcx tk
      obtain ⟨fn, tmps, assign, body, hy, hR⟩ := hY _ x wr hJs (by rw [List.length_take]; omega)
      clear hxe
      gi_wp2
      refine hR.mono ?_
      rintro e W3 (⟨rfl, hJ3, hk3⟩ | ⟨rfl, hJx3⟩)
      · gi_wp2
        go_roundw
        case rel => exact ⟨k + 1, hlt, by go_num, by rw [tk.out]; exact hJ3, hnx.trans hk3⟩
        case measure => simp [intOf]; omega
      · gi_wp2
        refine bodyPost_ret (results_none rfl _ _ _) rfl ?_
        exact ⟨⟨_, rfl⟩, .inr ⟨_, tk.out ▸ List.take_prefix _ _, hJx3⟩⟩
    · obtain rfl : k = n := by omega
      gi_wp2
      go_end0
      exact ⟨⟨_, rfl⟩, .inl ⟨_, by rw [← HN.out]; exact List.take_length, hJs⟩⟩
theorem names1_any (w : World) (s t : ByteArray) :
    Calls Try.prog 46 #[.agg #[.string s, .string t]] w fun e w' => e = .returned (.string s) ∧ Below w.heap.size w w' := by
  go_enter Try.func46, Try.ntmps46
  go_wp2_with fail
  go_ret
  exact ⟨rfl, (Below.refl _ w).alloc (Nat.le_refl _) _⟩
theorem names2_any (w : World) (s : ByteArray) (t : Int) :
    Calls Try.prog 48 #[.agg #[.string s, .int .i64 t]] w fun e w' => e = .returned (.string s) ∧ Below w.heap.size w w' := by
  go_enter Try.func48, Try.ntmps48
  go_wp2_with fail
  go_ret
  exact ⟨rfl, (Below.refl _ w).alloc (Nat.le_refl _) _⟩
theorem names3_any (w : World) (s : ByteArray) (t : Nat × Nat) :
    Calls Try.prog 50 #[.agg #[.string s, .complex .f64 t.1 t.2]] w fun e w' => e = .returned (.string s) ∧ Below w.heap.size w w' := by
  go_enter Try.func50, Try.ntmps50
  go_wp2_with fail
  go_ret
  exact ⟨rfl, (Below.refl _ w).alloc (Nat.le_refl _) _⟩
set_option maxRecDepth 100000 in
set_option maxHeartbeats 2000000 in
theorem each1_in (T : Nat → Prop) (l Bs Bn B : Nat) (A : Option Addr) (cap n : Nat) (h62 : n ≤ 1048576) (xs : List (ByteArray × ByteArray)) (hn : xs.length = n) (J Jx : List ByteArray → World → Prop) (W0 W : World) (hW : Below W0.heap.size W0 W) (hJ : AbidesFrom W.heap.size J) (hT : ∀ k, T k → ¬ k < B) (hTn : ¬ T Bn)
    (hY : ∀ pre x W1, J pre W1 → pre.length < n → YieldAt Fence.wide (7 - 1) Try.prog l #[.string x] W1 fun e W' =>
      (e = .returned (.bool true) ∧ J (pre ++ [x]) W' ∧ Keep T W1 W') ∨ (e = .returned (.bool false) ∧ Jx (pre ++ [x]) W'))
    (hBs : W.cell? ⟨Bs, 0, none⟩ = some (.slice A n cap)) (hBn : W.cell? ⟨Bn, 0, none⟩ = some (.func (.func 46) #[] #[])) (hc : Cells W B A (fcells xs)) (h0 : J [] W) :
    CallsIn Fence.wide 7 Try.prog 63 #[.func (.yield l) #[] #[], .pointer (some ⟨Bs, 0, none⟩), .pointer (some ⟨Bn, 0, none⟩)] W fun e W' => (∃ v, e = .returned v) ∧ ((∃ ys, ys = xs.map Prod.fst ∧ J ys W') ∨ (∃ pre, pre <+: xs.map Prod.fst ∧ Jx pre W')) := by
  have HC := Lib.hid hc
  have HN := Lib.hid hn
  have n9 : (n : Int) ≤ 1048576 := by omega
  have n0 : (0 : Int) ≤ (n : Int) := by omega
  have HBN := Lib.hid hBn
  clear hc hn h62 hBn
  refine callsIn_of_wp Try.func63 rfl trivial ?_ rfl
  simp only [Try.ntmps63, List.size_toArray, List.length_cons, List.length_nil, Nat.reduceAdd, Nat.reduceSub, Array.replicate_succ, Array.replicate_zero, List.push_toArray, List.append_toArray, List.nil_append, List.cons_append]
  gi_wp2
  gi_loopw [8] (fun i wr => ∃ k : Nat, k ≤ n ∧ i = .int .i64 k ∧ J ((xs.map Prod.fst).take k) wr ∧ Keep T W wr) (fun i _ => n - (intOf i).toNat)
  case atStart => exact ⟨0, Nat.zero_le _, rfl, h0, Keep.refl _ _⟩
  case round =>
    obtain ⟨k, hk, rfl, hJs, hnx⟩ := hrel
    have k0 : (0 : Int) ≤ (k : Int) := by omega
    by_cases hlt : k < n
    · have k1 : (k : Int) < (n : Int) := by omega
      have hx : k < xs.length := by rw [HN.out]; exact hlt
      obtain ⟨p, rfl, hp, hc1, hc2⟩ := (hnx.cells hT HC.out).at2 k hx
      have hbn := fun o => cell_more o (hnx.cell (p := ⟨Bn, 0, none⟩) hTn HBN.out)
      have tk := Lib.hid (take_more (xs.map Prod.fst) k (by rw [List.length_map]; exact hx))
      rw [List.getElem_map] at tk
      obtain ⟨x, hxe⟩ : ∃ x, xs[k].1 = x := ⟨_, rfl⟩
      obtain ⟨y, hye⟩ : ∃ y : ByteArray, xs[k].2 = y := ⟨_, rfl⟩
      rw [hxe] at hc1 tk
      rw [hye] at hc2
      clear hxe hye
      have nm := fun w => names1_any w x y
      have yy : ∀ o W2, Below (wr.alloc o).heap.size (wr.alloc o) W2 → Below wr.heap.size wr W2 ∧ YieldAt Fence.wide (7 - 1) Try.prog l #[.string x] W2 fun e W' =>
          (e = .returned (.bool true) ∧ J ((xs.map Prod.fst).take k ++ [x]) W' ∧ Keep T W2 W') ∨ (e = .returned (.bool false) ∧ Jx ((xs.map Prod.fst).take k ++ [x]) W') := fun o W2 hb2 => by
        have hbb : Below wr.heap.size wr W2 := below_then ((Below.refl _ wr).alloc (Nat.le_refl _) _) hb2
        exact ⟨hbb, hY _ x W2 (hJ _ _ _ none hJs (grown_of hbb) (fun r e => nomatch e)) (by rw [List.length_take]; omega)⟩
      gi_wp2_with (refine ⟨trivial, ?_⟩; gi_at_call 46; refine (callsIn_wide.2 (nm _)).mono ?_; rintro e W2 ⟨rfl, hb2⟩; obtain ⟨hbb, fn, tmps, assign, body, hy, hR⟩ := yy _ _ hb2)
      refine hR.mono ?_
      rintro e W3 (⟨rfl, hJ3, hk3⟩ | ⟨rfl, hJx3⟩)
      · gi_wp2
        go_roundw
        case rel => exact ⟨k + 1, hlt, by go_num, by rw [tk.out]; exact hJ3, (hnx.trans (Keep.of_below hbb)).trans hk3⟩
        case measure => simp [intOf]; omega
      · gi_wp2
        refine bodyPost_ret (results_none rfl _ _ _) rfl ?_
        exact ⟨⟨_, rfl⟩, .inr ⟨_, tk.out ▸ List.take_prefix _ _, hJx3⟩⟩
    · obtain rfl : k = n := by omega
      gi_wp2
      go_end0
      exact ⟨⟨_, rfl⟩, .inl ⟨_, by rw [← HN.out, ← List.length_map (f := Prod.fst)]; exact List.take_length, hJs⟩⟩
set_option maxRecDepth 100000 in
set_option maxHeartbeats 2000000 in
theorem each2_in (T : Nat → Prop) (l Bs Bn B : Nat) (A : Option Addr) (cap n : Nat) (h62 : n ≤ 1048576) (xs : List (ByteArray × Int)) (hn : xs.length = n) (J Jx : List ByteArray → World → Prop) (W0 W : World) (hW : Below W0.heap.size W0 W) (hJ : AbidesFrom W.heap.size J) (hT : ∀ k, T k → ¬ k < B) (hTn : ¬ T Bn)
    (hY : ∀ pre x W1, J pre W1 → pre.length < n → YieldAt Fence.wide (7 - 1) Try.prog l #[.string x] W1 fun e W' =>
      (e = .returned (.bool true) ∧ J (pre ++ [x]) W' ∧ Keep T W1 W') ∨ (e = .returned (.bool false) ∧ Jx (pre ++ [x]) W'))
    (hBs : W.cell? ⟨Bs, 0, none⟩ = some (.slice A n cap)) (hBn : W.cell? ⟨Bn, 0, none⟩ = some (.func (.func 48) #[] #[])) (hc : Cells W B A (scells xs)) (h0 : J [] W) :
    CallsIn Fence.wide 7 Try.prog 64 #[.func (.yield l) #[] #[], .pointer (some ⟨Bs, 0, none⟩), .pointer (some ⟨Bn, 0, none⟩)] W fun e W' => (∃ v, e = .returned v) ∧ ((∃ ys, ys = xs.map Prod.fst ∧ J ys W') ∨ (∃ pre, pre <+: xs.map Prod.fst ∧ Jx pre W')) := by
  have HC := Lib.hid hc
  have HN := Lib.hid hn
  have n9 : (n : Int) ≤ 1048576 := by omega
  have n0 : (0 : Int) ≤ (n : Int) := by omega
  have HBN := Lib.hid hBn
  clear hc hn h62 hBn
  refine callsIn_of_wp Try.func64 rfl trivial ?_ rfl
  simp only [Try.ntmps64, List.size_toArray, List.length_cons, List.length_nil, Nat.reduceAdd, Nat.reduceSub, Array.replicate_succ, Array.replicate_zero, List.push_toArray, List.append_toArray, List.nil_append, List.cons_append]
  gi_wp2
  gi_loopw [8] (fun i wr => ∃ k : Nat, k ≤ n ∧ i = .int .i64 k ∧ J ((xs.map Prod.fst).take k) wr ∧ Keep T W wr) (fun i _ => n - (intOf i).toNat)
  case atStart => exact ⟨0, Nat.zero_le _, rfl, h0, Keep.refl _ _⟩
  case round =>
    obtain ⟨k, hk, rfl, hJs, hnx⟩ := hrel
    have k0 : (0 : Int) ≤ (k : Int) := by omega
    by_cases hlt : k < n
    · have k1 : (k : Int) < (n : Int) := by omega
      have hx : k < xs.length := by rw [HN.out]; exact hlt
      obtain ⟨p, rfl, hp, hc1, hc2⟩ := (hnx.cells hT HC.out).at2 k hx
      have hbn := fun o => cell_more o (hnx.cell (p := ⟨Bn, 0, none⟩) hTn HBN.out)
      have tk := Lib.hid (take_more (xs.map Prod.fst) k (by rw [List.length_map]; exact hx))
      rw [List.getElem_map] at tk
      obtain ⟨x, hxe⟩ : ∃ x, xs[k].1 = x := ⟨_, rfl⟩
      obtain ⟨y, hye⟩ : ∃ y : Int, xs[k].2 = y := ⟨_, rfl⟩
      rw [hxe] at hc1 tk
      rw [hye] at hc2
      clear hxe hye
      have nm := fun w => names2_any w x y
      have yy : ∀ o W2, Below (wr.alloc o).heap.size (wr.alloc o) W2 → Below wr.heap.size wr W2 ∧ YieldAt Fence.wide (7 - 1) Try.prog l #[.string x] W2 fun e W' =>
          (e = .returned (.bool true) ∧ J ((xs.map Prod.fst).take k ++ [x]) W' ∧ Keep T W2 W') ∨ (e = .returned (.bool false) ∧ Jx ((xs.map Prod.fst).take k ++ [x]) W') := fun o W2 hb2 => by
        have hbb : Below wr.heap.size wr W2 := below_then ((Below.refl _ wr).alloc (Nat.le_refl _) _) hb2
        exact ⟨hbb, hY _ x W2 (hJ _ _ _ none hJs (grown_of hbb) (fun r e => nomatch e)) (by rw [List.length_take]; omega)⟩
      gi_wp2_with (refine ⟨trivial, ?_⟩; gi_at_call 48; refine (callsIn_wide.2 (nm _)).mono ?_; rintro e W2 ⟨rfl, hb2⟩; obtain ⟨hbb, fn, tmps, assign, body, hy, hR⟩ := yy _ _ hb2)
      refine hR.mono ?_
      rintro e W3 (⟨rfl, hJ3, hk3⟩ | ⟨rfl, hJx3⟩)
      · gi_wp2
        go_roundw
        case rel => exact ⟨k + 1, hlt, by go_num, by rw [tk.out]; exact hJ3, (hnx.trans (Keep.of_below hbb)).trans hk3⟩
        case measure => simp [intOf]; omega
      · gi_wp2
        refine bodyPost_ret (results_none rfl _ _ _) rfl ?_
        exact ⟨⟨_, rfl⟩, .inr ⟨_, tk.out ▸ List.take_prefix _ _, hJx3⟩⟩
    · obtain rfl : k = n := by omega
      gi_wp2
      go_end0
      exact ⟨⟨_, rfl⟩, .inl ⟨_, by rw [← HN.out, ← List.length_map (f := Prod.fst)]; exact List.take_length, hJs⟩⟩
set_option maxRecDepth 100000 in
set_option maxHeartbeats 2000000 in
theorem each3_in (T : Nat → Prop) (l Bs Bn B : Nat) (A : Option Addr) (cap n : Nat) (h62 : n ≤ 1048576) (xs : List (ByteArray × Nat × Nat)) (hn : xs.length = n) (J Jx : List ByteArray → World → Prop) (W0 W : World) (hW : Below W0.heap.size W0 W) (hJ : AbidesFrom W.heap.size J) (hT : ∀ k, T k → ¬ k < B) (hTn : ¬ T Bn)
    (hY : ∀ pre x W1, J pre W1 → pre.length < n → YieldAt Fence.wide (7 - 1) Try.prog l #[.string x] W1 fun e W' =>
      (e = .returned (.bool true) ∧ J (pre ++ [x]) W' ∧ Keep T W1 W') ∨ (e = .returned (.bool false) ∧ Jx (pre ++ [x]) W'))
    (hBs : W.cell? ⟨Bs, 0, none⟩ = some (.slice A n cap)) (hBn : W.cell? ⟨Bn, 0, none⟩ = some (.func (.func 50) #[] #[])) (hc : Cells W B A (pcells xs)) (h0 : J [] W) :
    CallsIn Fence.wide 7 Try.prog 65 #[.func (.yield l) #[] #[], .pointer (some ⟨Bs, 0, none⟩), .pointer (some ⟨Bn, 0, none⟩)] W fun e W' => (∃ v, e = .returned v) ∧ ((∃ ys, ys = xs.map Prod.fst ∧ J ys W') ∨ (∃ pre, pre <+: xs.map Prod.fst ∧ Jx pre W')) := by
  have HC := Lib.hid hc
  have HN := Lib.hid hn
  have n9 : (n : Int) ≤ 1048576 := by omega
  have n0 : (0 : Int) ≤ (n : Int) := by omega
  have HBN := Lib.hid hBn
  clear hc hn h62 hBn
  refine callsIn_of_wp Try.func65 rfl trivial ?_ rfl
  simp only [Try.ntmps65, List.size_toArray, List.length_cons, List.length_nil, Nat.reduceAdd, Nat.reduceSub, Array.replicate_succ, Array.replicate_zero, List.push_toArray, List.append_toArray, List.nil_append, List.cons_append]
  gi_wp2
  gi_loopw [8] (fun i wr => ∃ k : Nat, k ≤ n ∧ i = .int .i64 k ∧ J ((xs.map Prod.fst).take k) wr ∧ Keep T W wr) (fun i _ => n - (intOf i).toNat)
  case atStart => exact ⟨0, Nat.zero_le _, rfl, h0, Keep.refl _ _⟩
  case round =>
    obtain ⟨k, hk, rfl, hJs, hnx⟩ := hrel
    have k0 : (0 : Int) ≤ (k : Int) := by omega
    by_cases hlt : k < n
    · have k1 : (k : Int) < (n : Int) := by omega
      have hx : k < xs.length := by rw [HN.out]; exact hlt
      obtain ⟨p, rfl, hp, hc1, hc2⟩ := (hnx.cells hT HC.out).at2 k hx
      have hbn := fun o => cell_more o (hnx.cell (p := ⟨Bn, 0, none⟩) hTn HBN.out)
      have tk := Lib.hid (take_more (xs.map Prod.fst) k (by rw [List.length_map]; exact hx))
      rw [List.getElem_map] at tk
      obtain ⟨x, hxe⟩ : ∃ x, xs[k].1 = x := ⟨_, rfl⟩
      obtain ⟨y, hye⟩ : ∃ y : Nat × Nat, xs[k].2 = y := ⟨_, rfl⟩
      rw [hxe] at hc1 tk
      rw [hye] at hc2
      clear hxe hye
      have nm := fun w => names3_any w x y
      have yy : ∀ o W2, Below (wr.alloc o).heap.size (wr.alloc o) W2 → Below wr.heap.size wr W2 ∧ YieldAt Fence.wide (7 - 1) Try.prog l #[.string x] W2 fun e W' =>
          (e = .returned (.bool true) ∧ J ((xs.map Prod.fst).take k ++ [x]) W' ∧ Keep T W2 W') ∨ (e = .returned (.bool false) ∧ Jx ((xs.map Prod.fst).take k ++ [x]) W') := fun o W2 hb2 => by
        have hbb : Below wr.heap.size wr W2 := below_then ((Below.refl _ wr).alloc (Nat.le_refl _) _) hb2
        exact ⟨hbb, hY _ x W2 (hJ _ _ _ none hJs (grown_of hbb) (fun r e => nomatch e)) (by rw [List.length_take]; omega)⟩
      have hst : ∀ (a : Addr) (W : World), (store a (.complex .f64 y.1 y.2)).run Try.prog W = stored Try.prog W a (.complex .f64 y.1 y.2) .plain := fun a W => run_store _ W a _ _ rfl
      gi_wp2_with (refine ⟨trivial, ?_⟩; gi_at_call 50; refine (callsIn_wide.2 (nm _)).mono ?_; rintro e W2 ⟨rfl, hb2⟩; obtain ⟨hbb, fn, tmps, assign, body, hy, hR⟩ := yy _ _ hb2)
      refine hR.mono ?_
      rintro e W3 (⟨rfl, hJ3, hk3⟩ | ⟨rfl, hJx3⟩)
      · gi_wp2
        go_roundw
        case rel => exact ⟨k + 1, hlt, by go_num, by rw [tk.out]; exact hJ3, (hnx.trans (Keep.of_below hbb)).trans hk3⟩
        case measure => simp [intOf]; omega
      · gi_wp2
        refine bodyPost_ret (results_none rfl _ _ _) rfl ?_
        exact ⟨⟨_, rfl⟩, .inr ⟨_, tk.out ▸ List.take_prefix _ _, hJx3⟩⟩
    · obtain rfl : k = n := by omega
      gi_wp2
      go_end0
      exact ⟨⟨_, rfl⟩, .inl ⟨_, by rw [← HN.out, ← List.length_map (f := Prod.fst)]; exact List.take_length, hJs⟩⟩
end Go.Proofs.Ytgokjdlemfaagaa
