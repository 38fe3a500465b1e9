/- Package tree: Text of one small tree: the tables of functions (printed by mktk.py). -/
import Derived.Test.YtbcjpnmakcmndaaGreatDoorKx
import Derived.Maps.OwnSet
import Derived.WideMake
namespace Go.Proofs.YtbcjpnmakcmndaaGreatDoor
open Go.RowKit PrM Go.Maps
set_option linter.unusedVariables false
set_option linter.unusedSimpArgs false
theorem ikey : Keyed Tryz.prog 3 := int_keyed Tryz.underlying3
theorem ikey_of (k : Int) (h : (Lit.int .i64 k).wf = true) : keyOf Tryz.prog 3 (.int .i64 k) = some (.int .i64 k) := keyOf_int_mk Tryz.underlying3 h
def heldF (v : Value) : Option (DataW Value × List MemPlace) := some (.held v, [])
theorem wpList_insert_own {w : World} {ops : Array Oper} {rest : List Oper} {o : Oper} {a : Act} {Q : Exit → Act → World → Prop}
  (hg : o.guard = none) (m x v : Operand) (t : TypeId) (hop : o.op = Op.insert t m x v)
  (k e : TypeId) (K : Keyed Tryz.prog k) (ht : Tryz.prog.underlying t = some (.map k e)) (R : Value → Option (DataW Value × List MemPlace)) (b n : Nat) (D : DataW Value)
  (hm : a.eval m = .map (some b)) (hown : w.ownsMap Tryz.prog k R b n D) (hn : n < maxLen) (key val : Value) (kl : Lit) (hx : a.eval x = key) (hv : a.eval v = val) (hkey : keyOf Tryz.prog k key = some kl)
  (d : DataW Value) (ps : List MemPlace) (hval : R val = some (d, ps))
  (hK : ∀ w', w'.ownsMap Tryz.prog k R b (n + 1) (D.put kl d) → w.grownBy w' (some b) → wpList Tryz.prog ops Q rest (a.put o.dst undef) w') :
  wpList Tryz.prog ops Q (o :: rest) a w := by
 refine wpList_plain hg fun K' hK' => ?_
 obtain ⟨w', hrun, r1, r2⟩ := hown.update K ht hn hkey hval
 unfold Oper.wp
 simp [execOp, hop, hm, hx, hv, hrun, Result.andThen]
 exact hK' _ _ (hK w' r1 r2)
/-- A table filled row by row. -/
def fill (l : List (Int × Nat)) : DataW Value := l.foldl (fun D x => D.put (.int .i64 x.1) (.held (.func (.func x.2) #[] #[]))) (.map [])
theorem under_S : Tryz.prog.underlying 68 = some (.map 3 106) := by kernel_rfl
def DS : List (Int × Nat) := [(1, 78), (12, 79), (2, 80), (3, 81), (4, 82), (5, 83), (6, 84), (7, 85), (8, 86), (9, 87), (10, 88), (11, 89)]
set_option maxRecDepth 20000 in
set_option maxHeartbeats 4000000 in
/-- The map that statWriters makes. -/
theorem S_any (w : World) : Calls Tryz.prog 41 #[] w fun e w' => ∃ n D, e = .returned (.map (some w.heap.size)) ∧ w'.ownsMap Tryz.prog 3 heldF w.heap.size n D ∧ D = fill DS ∧ Below w.heap.size w w' ∧ w.heap.size < w'.heap.size := by
 have O0 := Lib.hid (World.ownsMap_made w Tryz.prog 3 heldF)
 have B0 := Lib.hid ((Below.refl w.heap.size w).alloc (Nat.le_refl _) (.map #[] 0))
 have H0 := Lib.hid (al_lt w (.map #[] 0))
 go_enter Tryz.func41, Tryz.ntmps41
 have mk := fun W => run_makeMap_plain (P := Tryz.prog) (w := W) 68
 go_wp2_with (first
  |(refine wpList_insert_own rfl (.tmp 1) (.const (.int .i64 1)) (.func 78) 68 rfl 3 106 ikey under_S heldF w.heap.size 0 _ rfl O0.out (by unfold maxLen; omega) (.int .i64 1) (.func (.func 78) #[] #[]) (.int .i64 1) rfl rfl (ikey_of 1 (by decide)) (.held (.func (.func 78) #[] #[])) [] rfl ?_; intro w1 own g; have O1 := Lib.hid own; have B1 := Lib.hid (B0.out.grown g B0.out.size (fun j hj => by cases hj; exact Nat.le_refl _)); have H1 := Lib.hid (Nat.lt_of_lt_of_le H0.out g.size); clear own g)
  |(refine wpList_insert_own rfl (.tmp 1) (.const (.int .i64 12)) (.func 79) 68 rfl 3 106 ikey under_S heldF w.heap.size 1 _ rfl O1.out (by unfold maxLen; omega) (.int .i64 12) (.func (.func 79) #[] #[]) (.int .i64 12) rfl rfl (ikey_of 12 (by decide)) (.held (.func (.func 79) #[] #[])) [] rfl ?_; intro w2 own g; have O2 := Lib.hid own; have B2 := Lib.hid (B1.out.grown g B1.out.size (fun j hj => by cases hj; exact Nat.le_refl _)); have H2 := Lib.hid (Nat.lt_of_lt_of_le H1.out g.size); clear own g)
  |(refine wpList_insert_own rfl (.tmp 1) (.const (.int .i64 2)) (.func 80) 68 rfl 3 106 ikey under_S heldF w.heap.size 2 _ rfl O2.out (by unfold maxLen; omega) (.int .i64 2) (.func (.func 80) #[] #[]) (.int .i64 2) rfl rfl (ikey_of 2 (by decide)) (.held (.func (.func 80) #[] #[])) [] rfl ?_; intro w3 own g; have O3 := Lib.hid own; have B3 := Lib.hid (B2.out.grown g B2.out.size (fun j hj => by cases hj; exact Nat.le_refl _)); have H3 := Lib.hid (Nat.lt_of_lt_of_le H2.out g.size); clear own g)
  |(refine wpList_insert_own rfl (.tmp 1) (.const (.int .i64 3)) (.func 81) 68 rfl 3 106 ikey under_S heldF w.heap.size 3 _ rfl O3.out (by unfold maxLen; omega) (.int .i64 3) (.func (.func 81) #[] #[]) (.int .i64 3) rfl rfl (ikey_of 3 (by decide)) (.held (.func (.func 81) #[] #[])) [] rfl ?_; intro w4 own g; have O4 := Lib.hid own; have B4 := Lib.hid (B3.out.grown g B3.out.size (fun j hj => by cases hj; exact Nat.le_refl _)); have H4 := Lib.hid (Nat.lt_of_lt_of_le H3.out g.size); clear own g)
  |(refine wpList_insert_own rfl (.tmp 1) (.const (.int .i64 4)) (.func 82) 68 rfl 3 106 ikey under_S heldF w.heap.size 4 _ rfl O4.out (by unfold maxLen; omega) (.int .i64 4) (.func (.func 82) #[] #[]) (.int .i64 4) rfl rfl (ikey_of 4 (by decide)) (.held (.func (.func 82) #[] #[])) [] rfl ?_; intro w5 own g; have O5 := Lib.hid own; have B5 := Lib.hid (B4.out.grown g B4.out.size (fun j hj => by cases hj; exact Nat.le_refl _)); have H5 := Lib.hid (Nat.lt_of_lt_of_le H4.out g.size); clear own g)
  |(refine wpList_insert_own rfl (.tmp 1) (.const (.int .i64 5)) (.func 83) 68 rfl 3 106 ikey under_S heldF w.heap.size 5 _ rfl O5.out (by unfold maxLen; omega) (.int .i64 5) (.func (.func 83) #[] #[]) (.int .i64 5) rfl rfl (ikey_of 5 (by decide)) (.held (.func (.func 83) #[] #[])) [] rfl ?_; intro w6 own g; have O6 := Lib.hid own; have B6 := Lib.hid (B5.out.grown g B5.out.size (fun j hj => by cases hj; exact Nat.le_refl _)); have H6 := Lib.hid (Nat.lt_of_lt_of_le H5.out g.size); clear own g)
  |(refine wpList_insert_own rfl (.tmp 1) (.const (.int .i64 6)) (.func 84) 68 rfl 3 106 ikey under_S heldF w.heap.size 6 _ rfl O6.out (by unfold maxLen; omega) (.int .i64 6) (.func (.func 84) #[] #[]) (.int .i64 6) rfl rfl (ikey_of 6 (by decide)) (.held (.func (.func 84) #[] #[])) [] rfl ?_; intro w7 own g; have O7 := Lib.hid own; have B7 := Lib.hid (B6.out.grown g B6.out.size (fun j hj => by cases hj; exact Nat.le_refl _)); have H7 := Lib.hid (Nat.lt_of_lt_of_le H6.out g.size); clear own g)
  |(refine wpList_insert_own rfl (.tmp 1) (.const (.int .i64 7)) (.func 85) 68 rfl 3 106 ikey under_S heldF w.heap.size 7 _ rfl O7.out (by unfold maxLen; omega) (.int .i64 7) (.func (.func 85) #[] #[]) (.int .i64 7) rfl rfl (ikey_of 7 (by decide)) (.held (.func (.func 85) #[] #[])) [] rfl ?_; intro w8 own g; have O8 := Lib.hid own; have B8 := Lib.hid (B7.out.grown g B7.out.size (fun j hj => by cases hj; exact Nat.le_refl _)); have H8 := Lib.hid (Nat.lt_of_lt_of_le H7.out g.size); clear own g)
  |(refine wpList_insert_own rfl (.tmp 1) (.const (.int .i64 8)) (.func 86) 68 rfl 3 106 ikey under_S heldF w.heap.size 8 _ rfl O8.out (by unfold maxLen; omega) (.int .i64 8) (.func (.func 86) #[] #[]) (.int .i64 8) rfl rfl (ikey_of 8 (by decide)) (.held (.func (.func 86) #[] #[])) [] rfl ?_; intro w9 own g; have O9 := Lib.hid own; have B9 := Lib.hid (B8.out.grown g B8.out.size (fun j hj => by cases hj; exact Nat.le_refl _)); have H9 := Lib.hid (Nat.lt_of_lt_of_le H8.out g.size); clear own g)
  |(refine wpList_insert_own rfl (.tmp 1) (.const (.int .i64 9)) (.func 87) 68 rfl 3 106 ikey under_S heldF w.heap.size 9 _ rfl O9.out (by unfold maxLen; omega) (.int .i64 9) (.func (.func 87) #[] #[]) (.int .i64 9) rfl rfl (ikey_of 9 (by decide)) (.held (.func (.func 87) #[] #[])) [] rfl ?_; intro w10 own g; have O10 := Lib.hid own; have B10 := Lib.hid (B9.out.grown g B9.out.size (fun j hj => by cases hj; exact Nat.le_refl _)); have H10 := Lib.hid (Nat.lt_of_lt_of_le H9.out g.size); clear own g)
  |(refine wpList_insert_own rfl (.tmp 1) (.const (.int .i64 10)) (.func 88) 68 rfl 3 106 ikey under_S heldF w.heap.size 10 _ rfl O10.out (by unfold maxLen; omega) (.int .i64 10) (.func (.func 88) #[] #[]) (.int .i64 10) rfl rfl (ikey_of 10 (by decide)) (.held (.func (.func 88) #[] #[])) [] rfl ?_; intro w11 own g; have O11 := Lib.hid own; have B11 := Lib.hid (B10.out.grown g B10.out.size (fun j hj => by cases hj; exact Nat.le_refl _)); have H11 := Lib.hid (Nat.lt_of_lt_of_le H10.out g.size); clear own g)
  |(refine wpList_insert_own rfl (.tmp 1) (.const (.int .i64 11)) (.func 89) 68 rfl 3 106 ikey under_S heldF w.heap.size 11 _ rfl O11.out (by unfold maxLen; omega) (.int .i64 11) (.func (.func 89) #[] #[]) (.int .i64 11) rfl rfl (ikey_of 11 (by decide)) (.held (.func (.func 89) #[] #[])) [] rfl ?_; intro w12 own g; have O12 := Lib.hid own; have B12 := Lib.hid (B11.out.grown g B11.out.size (fun j hj => by cases hj; exact Nat.le_refl _)); have H12 := Lib.hid (Nat.lt_of_lt_of_le H11.out g.size); clear own g))
 go_ret
 exact ⟨_, _, rfl, O12.out, rfl, B12.out, H12.out⟩
theorem under_E : Tryz.prog.underlying 70 = some (.map 3 107) := by kernel_rfl
def DE : List (Int × Nat) := [(1, 90), (2, 91), (3, 92), (4, 93), (5, 94), (6, 95), (7, 96), (8, 97), (9, 98), (10, 99), (11, 100), (12, 101), (13, 102), (14, 103), (15, 104), (16, 105)]
set_option maxRecDepth 20000 in
set_option maxHeartbeats 4000000 in
/-- The map that expWriters makes. -/
theorem E_any (w : World) : Calls Tryz.prog 42 #[] w fun e w' => ∃ n D, e = .returned (.map (some w.heap.size)) ∧ w'.ownsMap Tryz.prog 3 heldF w.heap.size n D ∧ D = fill DE ∧ Below w.heap.size w w' ∧ w.heap.size < w'.heap.size := by
 have O0 := Lib.hid (World.ownsMap_made w Tryz.prog 3 heldF)
 have B0 := Lib.hid ((Below.refl w.heap.size w).alloc (Nat.le_refl _) (.map #[] 0))
 have H0 := Lib.hid (al_lt w (.map #[] 0))
 go_enter Tryz.func42, Tryz.ntmps42
 have mk := fun W => run_makeMap_plain (P := Tryz.prog) (w := W) 70
 go_wp2_with (first
  |(refine wpList_insert_own rfl (.tmp 1) (.const (.int .i64 1)) (.func 90) 70 rfl 3 107 ikey under_E heldF w.heap.size 0 _ rfl O0.out (by unfold maxLen; omega) (.int .i64 1) (.func (.func 90) #[] #[]) (.int .i64 1) rfl rfl (ikey_of 1 (by decide)) (.held (.func (.func 90) #[] #[])) [] rfl ?_; intro w1 own g; have O1 := Lib.hid own; have B1 := Lib.hid (B0.out.grown g B0.out.size (fun j hj => by cases hj; exact Nat.le_refl _)); have H1 := Lib.hid (Nat.lt_of_lt_of_le H0.out g.size); clear own g)
  |(refine wpList_insert_own rfl (.tmp 1) (.const (.int .i64 2)) (.func 91) 70 rfl 3 107 ikey under_E heldF w.heap.size 1 _ rfl O1.out (by unfold maxLen; omega) (.int .i64 2) (.func (.func 91) #[] #[]) (.int .i64 2) rfl rfl (ikey_of 2 (by decide)) (.held (.func (.func 91) #[] #[])) [] rfl ?_; intro w2 own g; have O2 := Lib.hid own; have B2 := Lib.hid (B1.out.grown g B1.out.size (fun j hj => by cases hj; exact Nat.le_refl _)); have H2 := Lib.hid (Nat.lt_of_lt_of_le H1.out g.size); clear own g)
  |(refine wpList_insert_own rfl (.tmp 1) (.const (.int .i64 3)) (.func 92) 70 rfl 3 107 ikey under_E heldF w.heap.size 2 _ rfl O2.out (by unfold maxLen; omega) (.int .i64 3) (.func (.func 92) #[] #[]) (.int .i64 3) rfl rfl (ikey_of 3 (by decide)) (.held (.func (.func 92) #[] #[])) [] rfl ?_; intro w3 own g; have O3 := Lib.hid own; have B3 := Lib.hid (B2.out.grown g B2.out.size (fun j hj => by cases hj; exact Nat.le_refl _)); have H3 := Lib.hid (Nat.lt_of_lt_of_le H2.out g.size); clear own g)
  |(refine wpList_insert_own rfl (.tmp 1) (.const (.int .i64 4)) (.func 93) 70 rfl 3 107 ikey under_E heldF w.heap.size 3 _ rfl O3.out (by unfold maxLen; omega) (.int .i64 4) (.func (.func 93) #[] #[]) (.int .i64 4) rfl rfl (ikey_of 4 (by decide)) (.held (.func (.func 93) #[] #[])) [] rfl ?_; intro w4 own g; have O4 := Lib.hid own; have B4 := Lib.hid (B3.out.grown g B3.out.size (fun j hj => by cases hj; exact Nat.le_refl _)); have H4 := Lib.hid (Nat.lt_of_lt_of_le H3.out g.size); clear own g)
  |(refine wpList_insert_own rfl (.tmp 1) (.const (.int .i64 5)) (.func 94) 70 rfl 3 107 ikey under_E heldF w.heap.size 4 _ rfl O4.out (by unfold maxLen; omega) (.int .i64 5) (.func (.func 94) #[] #[]) (.int .i64 5) rfl rfl (ikey_of 5 (by decide)) (.held (.func (.func 94) #[] #[])) [] rfl ?_; intro w5 own g; have O5 := Lib.hid own; have B5 := Lib.hid (B4.out.grown g B4.out.size (fun j hj => by cases hj; exact Nat.le_refl _)); have H5 := Lib.hid (Nat.lt_of_lt_of_le H4.out g.size); clear own g)
  |(refine wpList_insert_own rfl (.tmp 1) (.const (.int .i64 6)) (.func 95) 70 rfl 3 107 ikey under_E heldF w.heap.size 5 _ rfl O5.out (by unfold maxLen; omega) (.int .i64 6) (.func (.func 95) #[] #[]) (.int .i64 6) rfl rfl (ikey_of 6 (by decide)) (.held (.func (.func 95) #[] #[])) [] rfl ?_; intro w6 own g; have O6 := Lib.hid own; have B6 := Lib.hid (B5.out.grown g B5.out.size (fun j hj => by cases hj; exact Nat.le_refl _)); have H6 := Lib.hid (Nat.lt_of_lt_of_le H5.out g.size); clear own g)
  |(refine wpList_insert_own rfl (.tmp 1) (.const (.int .i64 7)) (.func 96) 70 rfl 3 107 ikey under_E heldF w.heap.size 6 _ rfl O6.out (by unfold maxLen; omega) (.int .i64 7) (.func (.func 96) #[] #[]) (.int .i64 7) rfl rfl (ikey_of 7 (by decide)) (.held (.func (.func 96) #[] #[])) [] rfl ?_; intro w7 own g; have O7 := Lib.hid own; have B7 := Lib.hid (B6.out.grown g B6.out.size (fun j hj => by cases hj; exact Nat.le_refl _)); have H7 := Lib.hid (Nat.lt_of_lt_of_le H6.out g.size); clear own g)
  |(refine wpList_insert_own rfl (.tmp 1) (.const (.int .i64 8)) (.func 97) 70 rfl 3 107 ikey under_E heldF w.heap.size 7 _ rfl O7.out (by unfold maxLen; omega) (.int .i64 8) (.func (.func 97) #[] #[]) (.int .i64 8) rfl rfl (ikey_of 8 (by decide)) (.held (.func (.func 97) #[] #[])) [] rfl ?_; intro w8 own g; have O8 := Lib.hid own; have B8 := Lib.hid (B7.out.grown g B7.out.size (fun j hj => by cases hj; exact Nat.le_refl _)); have H8 := Lib.hid (Nat.lt_of_lt_of_le H7.out g.size); clear own g)
  |(refine wpList_insert_own rfl (.tmp 1) (.const (.int .i64 9)) (.func 98) 70 rfl 3 107 ikey under_E heldF w.heap.size 8 _ rfl O8.out (by unfold maxLen; omega) (.int .i64 9) (.func (.func 98) #[] #[]) (.int .i64 9) rfl rfl (ikey_of 9 (by decide)) (.held (.func (.func 98) #[] #[])) [] rfl ?_; intro w9 own g; have O9 := Lib.hid own; have B9 := Lib.hid (B8.out.grown g B8.out.size (fun j hj => by cases hj; exact Nat.le_refl _)); have H9 := Lib.hid (Nat.lt_of_lt_of_le H8.out g.size); clear own g)
  |(refine wpList_insert_own rfl (.tmp 1) (.const (.int .i64 10)) (.func 99) 70 rfl 3 107 ikey under_E heldF w.heap.size 9 _ rfl O9.out (by unfold maxLen; omega) (.int .i64 10) (.func (.func 99) #[] #[]) (.int .i64 10) rfl rfl (ikey_of 10 (by decide)) (.held (.func (.func 99) #[] #[])) [] rfl ?_; intro w10 own g; have O10 := Lib.hid own; have B10 := Lib.hid (B9.out.grown g B9.out.size (fun j hj => by cases hj; exact Nat.le_refl _)); have H10 := Lib.hid (Nat.lt_of_lt_of_le H9.out g.size); clear own g)
  |(refine wpList_insert_own rfl (.tmp 1) (.const (.int .i64 11)) (.func 100) 70 rfl 3 107 ikey under_E heldF w.heap.size 10 _ rfl O10.out (by unfold maxLen; omega) (.int .i64 11) (.func (.func 100) #[] #[]) (.int .i64 11) rfl rfl (ikey_of 11 (by decide)) (.held (.func (.func 100) #[] #[])) [] rfl ?_; intro w11 own g; have O11 := Lib.hid own; have B11 := Lib.hid (B10.out.grown g B10.out.size (fun j hj => by cases hj; exact Nat.le_refl _)); have H11 := Lib.hid (Nat.lt_of_lt_of_le H10.out g.size); clear own g)
  |(refine wpList_insert_own rfl (.tmp 1) (.const (.int .i64 12)) (.func 101) 70 rfl 3 107 ikey under_E heldF w.heap.size 11 _ rfl O11.out (by unfold maxLen; omega) (.int .i64 12) (.func (.func 101) #[] #[]) (.int .i64 12) rfl rfl (ikey_of 12 (by decide)) (.held (.func (.func 101) #[] #[])) [] rfl ?_; intro w12 own g; have O12 := Lib.hid own; have B12 := Lib.hid (B11.out.grown g B11.out.size (fun j hj => by cases hj; exact Nat.le_refl _)); have H12 := Lib.hid (Nat.lt_of_lt_of_le H11.out g.size); clear own g)
  |(refine wpList_insert_own rfl (.tmp 1) (.const (.int .i64 13)) (.func 102) 70 rfl 3 107 ikey under_E heldF w.heap.size 12 _ rfl O12.out (by unfold maxLen; omega) (.int .i64 13) (.func (.func 102) #[] #[]) (.int .i64 13) rfl rfl (ikey_of 13 (by decide)) (.held (.func (.func 102) #[] #[])) [] rfl ?_; intro w13 own g; have O13 := Lib.hid own; have B13 := Lib.hid (B12.out.grown g B12.out.size (fun j hj => by cases hj; exact Nat.le_refl _)); have H13 := Lib.hid (Nat.lt_of_lt_of_le H12.out g.size); clear own g)
  |(refine wpList_insert_own rfl (.tmp 1) (.const (.int .i64 14)) (.func 103) 70 rfl 3 107 ikey under_E heldF w.heap.size 13 _ rfl O13.out (by unfold maxLen; omega) (.int .i64 14) (.func (.func 103) #[] #[]) (.int .i64 14) rfl rfl (ikey_of 14 (by decide)) (.held (.func (.func 103) #[] #[])) [] rfl ?_; intro w14 own g; have O14 := Lib.hid own; have B14 := Lib.hid (B13.out.grown g B13.out.size (fun j hj => by cases hj; exact Nat.le_refl _)); have H14 := Lib.hid (Nat.lt_of_lt_of_le H13.out g.size); clear own g)
  |(refine wpList_insert_own rfl (.tmp 1) (.const (.int .i64 15)) (.func 104) 70 rfl 3 107 ikey under_E heldF w.heap.size 14 _ rfl O14.out (by unfold maxLen; omega) (.int .i64 15) (.func (.func 104) #[] #[]) (.int .i64 15) rfl rfl (ikey_of 15 (by decide)) (.held (.func (.func 104) #[] #[])) [] rfl ?_; intro w15 own g; have O15 := Lib.hid own; have B15 := Lib.hid (B14.out.grown g B14.out.size (fun j hj => by cases hj; exact Nat.le_refl _)); have H15 := Lib.hid (Nat.lt_of_lt_of_le H14.out g.size); clear own g)
  |(refine wpList_insert_own rfl (.tmp 1) (.const (.int .i64 16)) (.func 105) 70 rfl 3 107 ikey under_E heldF w.heap.size 15 _ rfl O15.out (by unfold maxLen; omega) (.int .i64 16) (.func (.func 105) #[] #[]) (.int .i64 16) rfl rfl (ikey_of 16 (by decide)) (.held (.func (.func 105) #[] #[])) [] rfl ?_; intro w16 own g; have O16 := Lib.hid own; have B16 := Lib.hid (B15.out.grown g B15.out.size (fun j hj => by cases hj; exact Nat.le_refl _)); have H16 := Lib.hid (Nat.lt_of_lt_of_le H15.out g.size); clear own g))
 go_ret
 exact ⟨_, _, rfl, O16.out, rfl, B16.out, H16.out⟩
theorem look_S {w : World} {b n : Nat} (h : w.ownsMap Tryz.prog 3 heldF b n (fill DS)) : (Instr.lookup 68 (.map (some b)) (.int .i64 10) true).run Tryz.prog w = .ok (.tuple #[.func (.func 88) #[] #[], .bool true]) w := by
 obtain ⟨v, ps, hrun, hv⟩ := World.ownsMap.look_ok h ikey under_S (z := .nilFunc) (by kernel_rfl) (zd := .held .nilFunc) (zp := []) rfl (ikey_of 10 (by decide))
 rw [hrun]
 simp only [heldF, Option.some.injEq, Prod.mk.injEq] at hv
 have e : (DataW.held v : DataW Value) = .held (.func (.func 88) #[] #[]) := hv.1.trans (by rfl)
 have e2 := DataW.held.inj e
 rw [e2]
 rfl
set_option maxRecDepth 20000 in
theorem look_E {w : World} {b n : Nat} (h : w.ownsMap Tryz.prog 3 heldF b n (fill DE)) : (Instr.lookup 70 (.map (some b)) (.int .i64 4) true).run Tryz.prog w = .ok (.tuple #[.func (.func 93) #[] #[], .bool true]) w := by
 obtain ⟨v, ps, hrun, hv⟩ := World.ownsMap.look_ok h ikey under_E (z := .nilFunc) (by kernel_rfl) (zd := .held .nilFunc) (zp := []) rfl (ikey_of 4 (by decide))
 rw [hrun]
 simp only [heldF, Option.some.injEq, Prod.mk.injEq] at hv
 have e : (DataW.held v : DataW Value) = .held (.func (.func 93) #[] #[]) := hv.1.trans (by rfl)
 have e2 := DataW.held.inj e
 rw [e2]
 rfl
end Go.Proofs.YtbcjpnmakcmndaaGreatDoor
