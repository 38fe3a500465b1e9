/- Texts of one proof behind one another: LxU4, LxU6. -/
import Derived.Test.YteakhlnnepjhpaaKa
import Derived.Deep.RegionLaw
import Derived.BigRegion
/- The document's own answer: what stands between marks. -/
namespace Go.Proofs.Yteakhlnnepjhpaa
open Go.RowKit
set_option linter.unusedVariables false
/-- What quoted returns. -/
def QTx (s : ByteArray) (x : Option (List UInt8 × List UInt8)) (e : Ending) : Prop :=
 match x with
 | some (o, r) => ∃ p : Nat, p ≤ s.size ∧ r = s.data.toList.drop p ∧ e = .returned (.tuple #[.string ⟨o.toArray⟩, .int .i64 (p : Int), .bool true])
 | none => ∃ t p, e = .returned (.tuple #[.string t, .int .i64 p, .bool false])
theorem QTx.bad {s : ByteArray} {m : UInt8} {l : List UInt8} (h : LxM.qt m l = none) (t : ByteArray) (p : Int) : QTx s (LxM.qs m l) (.returned (.tuple #[.string t, .int .i64 p, .bool false])) := by
 unfold LxM.qs
 rw [h]
 exact ⟨t, p, rfl⟩
theorem QTx.long {s : ByteArray} {m : UInt8} {l o r : List UInt8} (h : LxM.qt m l = some (o, r)) (ho : ¬ o.length ≤ 4096) (t : ByteArray) (p : Int) : QTx s (LxM.qs m l) (.returned (.tuple #[.string t, .int .i64 p, .bool false])) := by
 unfold LxM.qs
 rw [h, Option.filter_some, if_neg (by simpa using ho)]
 exact ⟨t, p, rfl⟩
theorem QTx.good {s : ByteArray} {m : UInt8} {l o : List UInt8} {k : Nat} (h : LxM.qt m l = some (o, s.data.toList.drop k)) (ho : o.length ≤ 4096) (hk : k ≤ s.size) : QTx s (LxM.qs m l) (.returned (.tuple #[.string ⟨o.toArray⟩, .int .i64 (k : Int), .bool true])) := by
 unfold LxM.qs
 rw [h, Option.filter_some, if_pos (by simpa using ho)]
 exact ⟨k, hk, rfl, rfl⟩
theorem qt_at (s : ByteArray) (m : UInt8) (j : Nat) (h : j < s.size) : LxM.qt m (s.data.toList.drop j) = if s[j] = m then some ([], s.data.toList.drop (j + 1)) else if s[j] = 10 then none else if s[j] = 92 then LxM.esc m (s.data.toList.drop (j + 1)) else (LxM.qt m (s.data.toList.drop (j + 1))).map fun x => (s[j] :: x.1, x.2) := by
 rw [drop_cons s j h, LxM.qt_cons]
theorem esc_at (s : ByteArray) (m : UInt8) (j : Nat) (h : j < s.size) : LxM.esc m (s.data.toList.drop j) = if s[j] = 110 then (LxM.qt m (s.data.toList.drop (j + 1))).map fun x => (10 :: x.1, x.2)
  else if s[j] = 116 then (LxM.qt m (s.data.toList.drop (j + 1))).map fun x => (9 :: x.1, x.2)
  else if s[j] = 92 ∨ s[j] = 34 ∨ s[j] = 39 then (LxM.qt m (s.data.toList.drop (j + 1))).map fun x => (s[j] :: x.1, x.2)
  else if s[j] = 120 then LxM.hexq m (s.data.toList.drop (j + 1)) else none := by
 rw [drop_cons s j h]; rfl
theorem esc_end (s : ByteArray) (m : UInt8) (j : Nat) (h : s.size ≤ j) : LxM.esc m (s.data.toList.drop j) = none := by
 rw [drop_none s j h]; rfl
theorem hexq_at (s : ByteArray) (m : UInt8) (j : Nat) (h : j + 1 < s.size) : LxM.hexq m (s.data.toList.drop j) = if LxM.hx (LxM.i s[j]) = -1 ∨ LxM.hx (LxM.i s[j + 1]) = -1 then none else (LxM.qt m (s.data.toList.drop (j + 1 + 1))).map fun x => (UInt8.ofNat (LxM.hx (LxM.i s[j]) * 16 + LxM.hx (LxM.i s[j + 1])).toNat :: x.1, x.2) := by
 rw [drop_cons s j (by omega), drop_cons s (j + 1) h]; rfl
theorem hexq_end (s : ByteArray) (m : UInt8) (j : Nat) (h : s.size ≤ j + 1) : LxM.hexq m (s.data.toList.drop j) = none := by
 rcases Nat.lt_or_ge j s.size with h2 | h2
 ·rw [drop_cons s j h2, drop_none s (j + 1) h]; rfl
 ·rw [drop_none s j h2]; rfl
theorem hx_range (c : UInt8) : LxM.hx (LxM.i c) = -1 ∨ 0 ≤ LxM.hx (LxM.i c) ∧ LxM.hx (LxM.i c) < 16 := by
 unfold LxM.hx LxM.dg
 split
 ·rename_i h
  have := of_decide_eq_true (Bool.and_eq_true_iff.1 h).1
  have := of_decide_eq_true (Bool.and_eq_true_iff.1 h).2
  omega
 ·split
  ·rename_i h
   have := of_decide_eq_true (Bool.and_eq_true_iff.1 h).1
   have := of_decide_eq_true (Bool.and_eq_true_iff.1 h).2
   omega
  ·split
   ·rename_i h
    have := of_decide_eq_true (Bool.and_eq_true_iff.1 h).1
    have := of_decide_eq_true (Bool.and_eq_true_iff.1 h).2
    omega
   ·exact .inl rfl
theorem ne_b {c : UInt8} {n : Int} (x : UInt8) (hx : (x.toNat : Int) = n) (h : c ≠ x) : ((c.toNat : Int) == n) = false := by
 rw [beq_eq_false_iff_ne]; intro e; exact h (UInt8.toNat_inj.1 (by omega))
theorem hex_byte_nat : ∀ p : _root_.Fin 16, ∀ q : _root_.Fin 16, IntKind.u8.wrap (bits BinOp.or IntKind.i64 (IntKind.i64.wrap ((p.val : Int) * 16)) (q.val : Int)) = ((UInt8.ofNat ((p.val : Int) * 16 + (q.val : Int)).toNat).toNat : Int) := by decide +kernel
theorem hex_byte (p q : Int) (p0 : 0 ≤ p) (p1 : p < 16) (q0 : 0 ≤ q) (q1 : q < 16) : IntKind.u8.wrap (bits BinOp.or IntKind.i64 (IntKind.i64.wrap (p * 16)) q) = ((UInt8.ofNat (p * 16 + q).toNat).toNat : Int) := by
 obtain ⟨P, rfl⟩ : ∃ P : Nat, p = (P : Int) := ⟨p.toNat, by omega⟩
 obtain ⟨Q, rfl⟩ : ∃ Q : Nat, q = (Q : Int) := ⟨q.toNat, by omega⟩
 exact hex_byte_nat ⟨P, by omega⟩ ⟨Q, by omega⟩
/-- append of one byte as a step of a drawn region. -/
theorem step_append_byte {w : World} {ops : Array Oper} {o : Oper} {a : Act} {K : Act → World → Prop} {Q : Exit → Act → World → Prop} {E : Prop} (hgd : o.guard = none) (s x : Operand)
  (ho : o.op = .call { callee := .builtin .append, args := #[s, x], argTypes := #[89, 89] })
  (base : Nat) (v : Value) (l : List UInt8) (hs : a.eval s = v) (hown : w.ownsRow base 5 1 v l.length (l.map bv))
  (b : Nat) (hx : a.eval x = .slice (some ⟨b, 0, none⟩) 1 1) (c : UInt8) (hu : w.cell? ⟨b, 0, none⟩ = some (bv c)) (hlen : l.length ≤ 100000) (hb : base ≤ w.heap.size)
  (h : ∀ v' w', w'.ownsRow base 5 1 v' (l.length + [c].length) (l.map bv ++ [c].map bv) → w.grownBy w' v.ownBlock → K (a.put o.dst v') w') :
  if Region.wanted o (yielded ops a.tmps) = true then Oper.wp Try.prog o a w K Q else E := by
 have hw : Region.wanted o (yielded ops a.tmps) = true := by simp [Region.wanted, hgd]
 rw [if_pos hw]
 obtain ⟨i, hi, hz, k1, k2⟩ := info_parts info8
 obtain ⟨v', w', hrun, h2, h3, _, _⟩ := run_append_own_at (P := Try.prog) w base 89 o.type 5 i _ 1 1 Try.underlying89 hi hz k1 k2 rfl (by decide) v l.length (l.map bv) hown ⟨b, 0, none⟩ 1 1 [bv c] rfl (fun j y hy => by
  match j with
  | 0 => simp at hy; subst hy; simpa [Addr.add] using hu
  | j + 1 => simp at hy) (by intro y hy; simp at hy; subst hy; rfl) (by unfold maxLen; omega) (by omega) hb
 unfold Oper.wp
 simp [execOp, ho, resolve, invoke, builtin, hs, hx, hrun, Result.andThen]
 exact h v' w' h2 h3
/-- What holds between two rounds. -/
structure QX (w : World) (dv : Value) (acc : List UInt8) (j : Nat) (W : World) : Prop where
 own : W.ownsRow w.heap.size 5 1 dv acc.length (acc.map bv)
 bel : Below w.heap.size w W
 len : acc.length ≤ j
theorem QX.pushed {w W w2 : World} {dv v2 : Value} {acc : List UInt8} {j : Nat} {o : Obj} {c : UInt8} (h : QX w dv acc j W) (own2 : w2.ownsRow w.heap.size 5 1 v2 (acc.length + [c].length) (acc.map bv ++ [c].map bv)) (g2 : (W.alloc o).grownBy w2 dv.ownBlock) {k : Nat} (hk : j < k) : QX w v2 (acc ++ [c]) k w2 where
 own := by rw [List.map_append, List.length_append]; exact own2
 bel := (h.bel.alloc h.bel.size o).grown g2 (Nat.le_trans h.bel.size (by simp)) fun i e => (h.own.lt i e).1
 len := by rw [List.length_append]; have := h.len; show acc.length + 1 ≤ k; omega
theorem QX.pushedD {w W w2 : World} {dv v2 : Value} {acc : List UInt8} {j : Nat} {o : Obj} {c : UInt8} (h : QX w dv acc j W) (own2 : w2.ownsRow w.heap.size 5 1 v2 (acc.length + [c].length) (acc.map bv ++ [c].map bv)) (g2 : (W.alloc o).drew.grownBy w2 dv.ownBlock) {k : Nat} (hk : j < k) : QX w v2 (acc ++ [c]) k w2 where
 own := by rw [List.map_append, List.length_append]; exact own2
 bel := (h.bel.alloc h.bel.size o).drew.grown g2 (Nat.le_trans h.bel.size (by show W.heap.size ≤ (W.heap.push _).size; simp)) fun i e => (h.own.lt i e).1
 len := by rw [List.length_append]; have := h.len; show acc.length + 1 ≤ k; omega
theorem QX.up {w W : World} {dv : Value} {acc : List UInt8} {j k : Nat} (h : QX w dv acc j W) (hk : j ≤ k) : QX w dv acc k W := ⟨h.own, h.bel, Nat.le_trans h.len hk⟩
set_option maxRecDepth 20000 in
set_option maxHeartbeats 8000000 in
theorem rquoted_any (s : ByteArray) (k : Nat) (w : World) (m : UInt8) (hk : k < s.size) (hs : s.size ≤ 16384) (em : s[k] = m) (hm : m = 34 ∨ m = 39) :
  Calls Try.prog 30 #[.string s, .int .i64 (k : Int)] w fun e w' => QTx s (LxM.qs m (s.data.toList.drop (k + 1))) e ∧ Below w.heap.size w w' := by
 have k0 : (0 : Int) ≤ (k : Int) := by omega
 have k1 : (k : Int) < (s.size : Int) := by omega
 have wk1 : wrap64 ((k : Int) + 1) = ((k + 1 : Nat) : Int) := by unfold wrap64; omega
 have m10 : m ≠ 10 := by rcases hm with rfl | rfl <;> decide
 have m92 : m ≠ 92 := by rcases hm with rfl | rfl <;> decide
 have M10 := Lib.hid m10
 have M92 := Lib.hid m92
 have SZ := Lib.hid hs
 clear m10 m92 hm
 go_enter Try.func30, Try.ntmps30
 go_wp2_with fail
 go_loopw [8, 9] (fun d i wr => ∃ (j : Nat) (acc : List UInt8), j ≤ s.size ∧ i = .int .i64 j ∧ LxM.qt m (s.data.toList.drop (k + 1)) = LxM.app acc (LxM.qt m (s.data.toList.drop j)) ∧ QX w d acc j wr) (fun _ i _ => s.size - (intOf i).toNat)
 case atStart => exact ⟨k + 1, [], by omega, rfl, by rw [LxM.app_nil], ⟨rfl, .inl ⟨rfl, rfl⟩⟩, Below.refl _ _, Nat.zero_le _⟩
 case round =>
  obtain ⟨j, acc, hj, rfl, hq, hx⟩ := hrel
  have HQ := Lib.hid hq
  have QX0 := Lib.hid hx
  have OW : Hid (∀ o, (wr.alloc o).ownsRow w.heap.size 5 1 u8 acc.length (acc.map bv)) := fun o => World.ownsRow.alloc hx.own o
  have HB := Lib.hid hx.bel
  have LEN : Hid (acc.length ≤ 16384) := (by have := hx.len; omega : acc.length ≤ 16384)
  have j0 : (0 : Int) ≤ (j : Int) := by omega
  clear hq hx
  by_cases hlt : j < s.size
  ·have j1 : (j : Int) < (s.size : Int) := by omega
   have wj1 : wrap64 ((j : Int) + 1) = ((j + 1 : Nat) : Int) := by unfold wrap64; omega
   have QA := Lib.hid (qt_at s m j hlt)
   obtain ⟨c, ec⟩ : ∃ c, s[j] = c := ⟨_, rfl⟩
   rw [ec] at QA
   by_cases h10 : c = 10
   ·have f1 : ((c.toNat : Int) == 10) = true := by rw [h10]; rfl
    have QN : Hid (LxM.qt m (s.data.toList.drop (k + 1)) = none) := Lib.hid (by rw [HQ.out, QA.out, if_neg (by rw [h10]; exact fun e => M10.out e.symm), if_pos h10]; rfl)
    clear h10
    go_wp2_with fail
    go_ret3
    exact ⟨QTx.bad QN.out _ _, HB.out⟩
   ·have f1 : ((c.toNat : Int) == 10) = false := ne_b 10 rfl h10
    by_cases hcm : c = m
    ·have f2 : ((c.toNat : Int) == (m.toNat : Int)) = true := by rw [hcm]; exact beq_self_eq_true _
     have QN : Hid (LxM.qt m (s.data.toList.drop (k + 1)) = some (acc, s.data.toList.drop (j + 1))) := Lib.hid (by rw [HQ.out, QA.out, if_pos hcm]; simp [LxM.app])
     clear h10 hcm
     obtain ⟨A, cA, rfl, -, -, hr⟩ := Bs.of_own QX0.out.own
     have cv := convert_bs (w := wr) cA hr
     clear hr
     by_cases h4 : acc.length ≤ 4096
     ·have l1 : (acc.length : Int) ≤ 4096 := by omega
      go_wp2_with fail
      go_ret3
      exact ⟨QTx.good QN.out h4 hlt, HB.out⟩
     ·have l1 : (4096 : Int) < (acc.length : Int) := by omega
      have l2 : ¬ (acc.length : Int) ≤ 4096 := by omega
      go_wp2_with fail
      go_ret3
      exact ⟨QTx.long QN.out h4 _ _, HB.out⟩
    ·have f2 : ((c.toNat : Int) == (m.toNat : Int)) = false := ne_b m rfl hcm
     by_cases h92 : c = 92
     ·have f3 : ((c.toNat : Int) == 92) = true := by rw [h92]; rfl
      have QE : Hid (LxM.qt m (s.data.toList.drop (k + 1)) = LxM.app acc (LxM.esc m (s.data.toList.drop (j + 1)))) := Lib.hid (by rw [HQ.out, QA.out, if_neg hcm, if_neg h10, if_pos h92])
      have f4 : ((c.toNat : Int) != 92) = false := by rw [h92]; rfl
      clear h10 hcm h92
      by_cases hl2 : j + 1 < s.size
      ·have j2 : (j : Int) + 1 < (s.size : Int) := by omega
       have wj2 : wrap64 ((j : Int) + 1 + 1) = (j : Int) + 1 + 1 := by unfold wrap64; omega
       have wj3 : wrap64 ((j : Int) + 1 + 2) = (j : Int) + 1 + 2 := by unfold wrap64; omega
       have wj4 : wrap64 ((j : Int) + 1 + 2 + 1) = (j : Int) + 1 + 2 + 1 := by unfold wrap64; omega
       have EA := Lib.hid (esc_at s m (j + 1) hl2)
       obtain ⟨x, ex⟩ : ∃ x, s[j + 1] = x := ⟨_, rfl⟩
       rw [ex] at EA
       by_cases h1 : x = 110
       ·have g1 : ((x.toNat : Int) == 110) = true := by rw [h1]; rfl
        have QN : Hid (LxM.qt m (s.data.toList.drop (k + 1)) = LxM.app (acc ++ [10]) (LxM.qt m (s.data.toList.drop (j + 1 + 1)))) := Lib.hid (by rw [QE.out, EA.out, if_pos h1, LxM.app_map])
        clear h1
        go_wp2_with (at_builtin; refine wpList_append_bytes rfl (.tmp 57) (.tmp 58) rfl w.heap.size _ _ _ rfl (OW.out _) (wr.heap.size + 1) (some ⟨wr.heap.size, 0, none⟩) 1 [10] rfl (fun e => nomatch e) (Bs.new _ _ _ _ _ rfl) (by have := LEN.out; simp only [List.length_cons, List.length_nil]; omega) (by have := LEN.out; simp only [List.length_cons, List.length_nil]; omega) (by have := HB.out.size; simp; omega) ?_; intro v2 w2 own2 g2 loc2)
        exact ⟨⟨j + 1 + 1, acc ++ [10], hl2, rfl, QN.out, QX0.out.pushed own2 g2 (by omega)⟩, by show s.size - ((j : Int) + 1 + 1).toNat < s.size - ((j : Int)).toNat; omega⟩
       ·have g1 : ((x.toNat : Int) == 110) = false := ne_b 110 rfl h1
        by_cases h2 : x = 116
        ·have g2 : ((x.toNat : Int) == 116) = true := by rw [h2]; rfl
         have QN : Hid (LxM.qt m (s.data.toList.drop (k + 1)) = LxM.app (acc ++ [9]) (LxM.qt m (s.data.toList.drop (j + 1 + 1)))) := Lib.hid (by rw [QE.out, EA.out, if_neg h1, if_pos h2, LxM.app_map])
         clear h1 h2
         go_wp2_with (at_builtin; refine wpList_append_bytes rfl (.tmp 62) (.tmp 63) rfl w.heap.size _ _ _ rfl (OW.out _) (wr.heap.size + 1) (some ⟨wr.heap.size, 0, none⟩) 1 [9] rfl (fun e => nomatch e) (Bs.new _ _ _ _ _ rfl) (by have := LEN.out; simp only [List.length_cons, List.length_nil]; omega) (by have := LEN.out; simp only [List.length_cons, List.length_nil]; omega) (by have := HB.out.size; simp; omega) ?_; intro v2 w2 own2 g2 loc2)
         exact ⟨⟨j + 1 + 1, acc ++ [9], hl2, rfl, QN.out, QX0.out.pushed own2 g2 (by omega)⟩, by show s.size - ((j : Int) + 1 + 1).toNat < s.size - ((j : Int)).toNat; omega⟩
        ·have g2 : ((x.toNat : Int) == 116) = false := ne_b 116 rfl h2
         by_cases h3 : x = 92 ∨ x = 34 ∨ x = 39
         ·have QN : Hid (LxM.qt m (s.data.toList.drop (k + 1)) = LxM.app (acc ++ [x]) (LxM.qt m (s.data.toList.drop (j + 1 + 1)))) := Lib.hid (by rw [QE.out, EA.out, if_neg h1, if_neg h2, if_pos h3, LxM.app_map])
          have HG : ((x.toNat : Int) == 92) = true ∨ ((x.toNat : Int) == 92) = false ∧ ((x.toNat : Int) == 34) = true ∨ ((x.toNat : Int) == 92) = false ∧ ((x.toNat : Int) == 34) = false ∧ ((x.toNat : Int) == 39) = true := by
           rcases h3 with rfl | rfl | rfl
           ·exact .inl rfl
           ·exact .inr (.inl ⟨rfl, rfl⟩)
           ·exact .inr (.inr ⟨rfl, rfl, rfl⟩)
          have x256 := x.toNat_lt
          clear h1 h2 h3
          rcases HG with g3 | ⟨g3, g4⟩ | ⟨g3, g4, g5⟩
          all_goals
           go_wp2_with (at_builtin; refine wpList_append_bytes rfl (.tmp 69) (.tmp 73) rfl w.heap.size _ _ _ rfl (OW.out _) (wr.heap.size + 1) (some ⟨wr.heap.size, 0, none⟩) 1 [x] rfl (fun e => nomatch e) (Bs.new _ _ _ _ _ rfl) (by have := LEN.out; simp only [List.length_cons, List.length_nil]; omega) (by have := LEN.out; simp only [List.length_cons, List.length_nil]; omega) (by have := HB.out.size; simp; omega) ?_; intro v2 w2 own2 g2 loc2)
           exact ⟨⟨j + 1 + 1, acc ++ [x], hl2, rfl, QN.out, QX0.out.pushed own2 g2 (by omega)⟩, by show s.size - ((j : Int) + 1 + 1).toNat < s.size - ((j : Int)).toNat; omega⟩
         ·have g3 : ((x.toNat : Int) == 92) = false := ne_b 92 rfl (fun e => h3 (.inl e))
          have g4 : ((x.toNat : Int) == 34) = false := ne_b 34 rfl (fun e => h3 (.inr (.inl e)))
          have g5 : ((x.toNat : Int) == 39) = false := ne_b 39 rfl (fun e => h3 (.inr (.inr e)))
          by_cases h5 : x = 120
          ·have g6 : ((x.toNat : Int) == 120) = true := by rw [h5]; rfl
           have QX := Lib.hid (show LxM.qt m (s.data.toList.drop (k + 1)) = LxM.app acc (LxM.hexq m (s.data.toList.drop (j + 1 + 1))) by rw [QE.out, EA.out, if_neg h1, if_neg h2, if_neg h3, if_pos h5])
           clear h1 h2 h3 h5
           by_cases hl4 : j + 1 + 2 < s.size
           ·have j4 : (j : Int) + 1 + 2 < (s.size : Int) := by omega
            have HA := Lib.hid (hexq_at s m (j + 1 + 1) hl4)
            obtain ⟨a, ea⟩ : ∃ a, s[j + 1 + 1] = a := ⟨_, rfl⟩
            obtain ⟨b, eb⟩ : ∃ b, s[j + 1 + 2] = b := ⟨_, rfl⟩
            rw [ea, show s[j + 1 + 1 + 1] = b from eb] at HA
            have HXA := fun w => rhex_any a w
            have HXB := fun w => rhex_any b w
            have ra := hx_range a
            have rb := hx_range b
            obtain ⟨p, ep⟩ : ∃ p, LxM.hx (LxM.i a) = p := ⟨_, rfl⟩
            obtain ⟨q, eq⟩ : ∃ q, LxM.hx (LxM.i b) = q := ⟨_, rfl⟩
            rw [ep] at HXA HA ra
            rw [eq] at HXB HA rb
            clear ep eq
            by_cases pa : p = -1
            ·have QN : Hid (LxM.qt m (s.data.toList.drop (k + 1)) = none) := Lib.hid (by rw [QX.out, HA.out, if_pos (.inl pa)]; rfl)
             have p0 : p < 0 := by omega
             clear ra rb pa
             go_wp2_with (first | (go_at_call 47; with_reducible refine (HXA _).mono ?_; rintro e w' ⟨rfl, rfl⟩) | (go_at_call 47; with_reducible refine (HXB _).mono ?_; rintro e w' ⟨rfl, rfl⟩))
             go_ret3
             exact ⟨QTx.bad QN.out _ _, HB.out⟩
            ·have p0 : 0 ≤ p := by omega
             have p1 : p < 16 := by omega
             by_cases qa : q = -1
             ·have QN : Hid (LxM.qt m (s.data.toList.drop (k + 1)) = none) := Lib.hid (by rw [QX.out, HA.out, if_pos (.inr qa)]; rfl)
              have q0 : q < 0 := by omega
              clear ra rb pa qa
              go_wp2_with (first | (go_at_call 47; with_reducible refine (HXA _).mono ?_; rintro e w' ⟨rfl, rfl⟩) | (go_at_call 47; with_reducible refine (HXB _).mono ?_; rintro e w' ⟨rfl, rfl⟩))
              go_ret3
              exact ⟨QTx.bad QN.out _ _, HB.out⟩
             ·have q0 : 0 ≤ q := by omega
              have q1 : q < 16 := by omega
              have QN : Hid (LxM.qt m (s.data.toList.drop (k + 1)) = LxM.app (acc ++ [UInt8.ofNat (p * 16 + q).toNat]) (LxM.qt m (s.data.toList.drop (j + 1 + 1 + 1 + 1)))) := Lib.hid (by rw [QX.out, HA.out, if_neg (by rintro (h | h) <;> contradiction), LxM.app_map])
              clear ra rb pa qa
              go_wp2_with (first | (go_at_call 47; with_reducible refine (HXA _).mono ?_; rintro e w' ⟨rfl, rfl⟩) | (go_at_call 47; with_reducible refine (HXB _).mono ?_; rintro e w' ⟨rfl, rfl⟩))
              obtain ⟨j5, ej5⟩ : ∃ j5, j5 = j + 1 + 1 := ⟨_, rfl⟩
              obtain ⟨j6, ej6⟩ : ∃ j6, j6 = j + 1 + 2 := ⟨_, rfl⟩
              have hj5 : j5 < s.size := by omega
              have hj6 : j6 < s.size := by omega
              have ea5 : s[j5] = a := by subst ej5; exact ea
              have eb6 : s[j6] = b := by subst ej6; exact eb
              have iw5 : IntKind.i64.wrap ((j : Int) + 1 + 1) = (j5 : Int) := by rw [IntKind.wrap_i64]; omega
              have iw6 : IntKind.i64.wrap ((j : Int) + 1 + 2) = (j6 : Int) := by rw [IntKind.wrap_i64]; omega
              have i50 : 0 ≤ (j5 : Int) := by omega
              have i60 : 0 ≤ (j6 : Int) := by omega
              have i51 : (j5 : Int) < (s.size : Int) := by omega
              have i61 : (j6 : Int) < (s.size : Int) := by omega
              have e5 : ((j : Int) + 1 + 1).toNat = j5 := by omega
              have e6 : ((j : Int) + 1 + 2).toNat = j6 := by omega
              obtain ⟨c8, ec8⟩ : ∃ c8, c8 = UInt8.ofNat (p * 16 + q).toNat := ⟨_, rfl⟩
              have pv : IntKind.u8.wrap (bits BinOp.or IntKind.i64 (IntKind.i64.wrap (p * 16)) q) = (c8.toNat : Int) := by rw [ec8]; exact hex_byte p q p0 p1 q0 q1
              rw [← ec8] at QN
              clear ec8
              have CN : Hid ((wr.alloc (.cells #[Value.int IntKind.u8 (c8.toNat : Int)] 5)).drew.cell? ⟨wr.heap.size, 0, none⟩ = some (bv c8)) := World.cell?_alloc_new (w := wr) #[Value.int IntKind.u8 (c8.toNat : Int)] 5 0
              have L5 : Hid (acc.length ≤ 100000) := (by have := LEN.out; omega : acc.length ≤ 100000)
              have BS : Hid (w.heap.size ≤ (wr.alloc (.cells #[Value.int IntKind.u8 (c8.toNat : Int)] 5)).drew.heap.size) := Nat.le_trans HB.out.size (by show wr.heap.size ≤ (wr.heap.push _).size; simp)
              go_region_law (first | (refine step_append_byte rfl (.tmp 98) (.tmp 112) rfl w.heap.size u8 acc ?_ ?_ wr.heap.size ?_ c8 ?_ ?_ ?_ ?_; rfl; exact OW.out _; rfl; exact CN.out; exact L5.out; exact BS.out; intro v2 w2 own2 g2) | (go_simp; first | (go_at_call 47; with_reducible refine (HXA _).mono ?_; rintro e w' ⟨rfl, rfl⟩) | (go_at_call 47; with_reducible refine (HXB _).mono ?_; rintro e w' ⟨rfl, rfl⟩)))
              all_goals go_wp2_with fail
              all_goals exact ⟨⟨j + 1 + 1 + 1 + 1, acc ++ [c8], hl4, by rw [show ((j : Int) + 1 + 2 + 1) = ((j + 1 + 1 + 1 + 1 : Nat) : Int) by omega], QN.out, QX0.out.pushedD own2 g2 (by omega)⟩, by show s.size - ((j : Int) + 1 + 2 + 1).toNat < s.size - ((j : Int)).toNat; omega⟩
           ·have j4 : (s.size : Int) ≤ (j : Int) + 1 + 2 := by omega
            have QN : Hid (LxM.qt m (s.data.toList.drop (k + 1)) = none) := Lib.hid (by rw [QX.out, hexq_end s m _ (by omega)]; rfl)
            go_wp2_with fail
            go_ret3
            exact ⟨QTx.bad QN.out _ _, HB.out⟩
          ·have g6 : ((x.toNat : Int) == 120) = false := ne_b 120 rfl h5
           have QN : Hid (LxM.qt m (s.data.toList.drop (k + 1)) = none) := Lib.hid (by rw [QE.out, EA.out, if_neg h1, if_neg h2, if_neg h3, if_neg h5]; rfl)
           clear h1 h2 h3 h5
           go_wp2_with fail
           go_ret3
           exact ⟨QTx.bad QN.out _ _, HB.out⟩
      ·have j2 : (s.size : Int) ≤ (j : Int) + 1 := by omega
       have QN : Hid (LxM.qt m (s.data.toList.drop (k + 1)) = none) := Lib.hid (by rw [QE.out, esc_end s m _ (by omega)]; rfl)
       go_wp2_with fail
       go_ret3
       exact ⟨QTx.bad QN.out _ _, HB.out⟩
     ·have f3 : ((c.toNat : Int) == 92) = false := ne_b 92 rfl h92
      have QN : Hid (LxM.qt m (s.data.toList.drop (k + 1)) = LxM.app (acc ++ [c]) (LxM.qt m (s.data.toList.drop (j + 1)))) := Lib.hid (by rw [HQ.out, QA.out, if_neg hcm, if_neg h10, if_neg h92, LxM.app_map])
      have c256 := c.toNat_lt
      clear h10 hcm h92
      go_wp2_with (at_builtin; refine wpList_append_bytes rfl (.tmp 42) (.tmp 44) rfl w.heap.size _ _ _ rfl (OW.out _) (wr.heap.size + 1) (some ⟨wr.heap.size, 0, none⟩) 1 [c] rfl (fun e => nomatch e) (Bs.new _ _ _ _ _ rfl) (by have := LEN.out; simp only [List.length_cons, List.length_nil]; omega) (by have := LEN.out; simp only [List.length_cons, List.length_nil]; omega) (by have := HB.out.size; simp; omega) ?_; intro v2 w2 own2 g2 loc2)
      exact ⟨⟨j + 1, acc ++ [c], hlt, rfl, QN.out, QX0.out.pushed own2 g2 (Nat.lt_succ_self _)⟩, by show s.size - ((j : Int) + 1).toNat < s.size - ((j : Int)).toNat; omega⟩
  ·have QN : Hid (LxM.qt m (s.data.toList.drop (k + 1)) = none) := Lib.hid (by rw [HQ.out, drop_none s j (by omega), LxM.qt_nil]; rfl)
   have j1 : (s.size : Int) ≤ (j : Int) := by omega
   go_wp2_with fail
   go_ret3
   exact ⟨QTx.bad QN.out _ _, HB.out⟩
end Go.Proofs.Yteakhlnnepjhpaa
/- The document's own answer: the tokens of a text. -/
namespace Go.Proofs.Yteakhlnnepjhpaa
open Go.RowKit
set_option linter.unusedVariables false
theorem TRow.keep {w w' : World} {base : Nat} {v : Value} {l : List LxM.T} (h : TRow w base v l) (hb : Below w.heap.size w w') : TRow w' base v l := by
 refine ⟨h.1, ?_⟩
 rcases h.2 with ⟨rfl, h0⟩ | ⟨p, cap, cur, rfl, hp, hbk, hc, h4, hs, ht⟩
 ·exact .inl ⟨rfl, h0⟩
 ·exact .inr ⟨p, cap, cur, rfl, hp, (hb.block p (Array.getElem?_eq_some_iff.1 hbk).1).trans hbk, hc, h4, hs, ht⟩
theorem wpList_append_tok {w : World} {ops : Array Oper} {rest : List Oper} {o : Oper} {a : Act} {Q : Exit → Act → World → Prop} (hgd : o.guard = none) (s x : Operand)
  (ho : o.op = .call { callee := .builtin .append, args := #[s, x], argTypes := #[43, 43] })
  (base : Nat) (v : Value) (l : List LxM.T) (hs : a.eval s = v) (hown : TRow w base v l)
  (b : Nat) (hx : a.eval x = .slice (some ⟨b, 0, none⟩) 1 1) (t : LxM.T) (ty : TypeId) (fr : Nat × Nat) (hu : w.heap[b]? = some (.cells (tcs t) ty fr)) (hlen : l.length ≤ 100000) (hb : base ≤ w.heap.size)
  (h : ∀ v' w', TRow w' base v' (l ++ [t]) → w.grownBy w' v.ownBlock → wpList Try.prog ops Q rest (a.put o.dst v') w') :
  wpList Try.prog ops Q (o :: rest) a w := by
 obtain ⟨i, hi, hz, k1, k2⟩ := info_parts infoT
 refine wpList_append_own_at w hgd s x 43 ho base 51 i _ 4 40 Try.underlying43 hi hz k1 k2 rfl (by decide) v l.length (tcells l) hs hown ⟨b, 0, none⟩ 1 1 (tcs t).toList hx rfl (fun j y hy => ?_) (tcs_one t) (by unfold maxLen; omega) (by omega) hb fun v' w' h2 h3 _ _ => h v' w' (by unfold TRow; rw [tcells_append, List.length_append]; simpa [tcells] using h2) h3
 have hj : j < 4 := by have := (List.getElem?_eq_some_iff.1 hy).1; simpa [tcs] using this
 have e : (⟨b, 0, none⟩ : Addr).add j = ⟨b, j, none⟩ := by unfold Addr.add; split <;> simp_all
 rw [e]
 simp only [World.cell?, hu]
 simpa using hy
theorem blk0 {W : World} {b : Nat} {v0 v1 v2 v3 : Value} {t : TypeId} (h : Blk W b #[v0, v1, v2, v3] t) (u : Value) : Blk (W.setCell ⟨b, 0, none⟩ u) b #[u, v1, v2, v3] t := by
 have h : W.heap[b]? = _ := h
 show (W.setCell ⟨b, 0, none⟩ u).heap[b]? = _
 simp [World.setCell, Array.getElem?_modify, h]
theorem blk1 {W : World} {b : Nat} {v0 v1 v2 v3 : Value} {t : TypeId} (h : Blk W b #[v0, v1, v2, v3] t) (u : Value) : Blk (W.setCell ⟨b, 1, none⟩ u) b #[v0, u, v2, v3] t := by
 have h : W.heap[b]? = _ := h
 show (W.setCell ⟨b, 1, none⟩ u).heap[b]? = _
 simp [World.setCell, Array.getElem?_modify, h]
theorem blk2 {W : World} {b : Nat} {v0 v1 v2 v3 : Value} {t : TypeId} (h : Blk W b #[v0, v1, v2, v3] t) (u : Value) : Blk (W.setCell ⟨b, 2, none⟩ u) b #[v0, v1, u, v3] t := by
 have h : W.heap[b]? = _ := h
 show (W.setCell ⟨b, 2, none⟩ u).heap[b]? = _
 simp [World.setCell, Array.getElem?_modify, h]
/-- Stores into one's own block. -/
theorem below_put {B : Nat} {W W1 : World} (h : Below B W W1) (i : Nat) (u : Value) (b : Nat) (hb : B ≤ b) : Below B W (W1.setCell ⟨b, i, none⟩ u) := h.setCell (p := ⟨b, i, none⟩) hb u
/-- Ahead of an append of a token, and behind it. -/
theorem tail_ok {W wr WF : World} {v : Value} {toks : List LxM.T} (own : TRow wr W.heap.size v toks) (hb : Below W.heap.size W wr) (bf : Below wr.heap.size wr WF) (C : Array Value) (t : LxM.T) (hC : C = tcs t) : TRow (WF.alloc (.cells C 51)) W.heap.size v toks ∧ (WF.alloc (.cells C 51)).heap[WF.heap.size]? = some (.cells (tcs t) 51 (0, 0)) ∧ W.heap.size ≤ (WF.alloc (.cells C 51)).heap.size := by
 subst hC
 exact ⟨(own.keep bf).keep ((Below.refl _ WF).alloc (Nat.le_refl _) _), Blk.new _ _ _, Nat.le_trans (Nat.le_trans hb.size bf.size) (by show WF.heap.size ≤ (WF.heap.push _).size; simp)⟩
theorem tail_below {W wr WF w3 : World} {v : Value} {toks : List LxM.T} {o : Obj} (own : TRow wr W.heap.size v toks) (hb : Below W.heap.size W wr) (bf : Below wr.heap.size wr WF) (g3 : (WF.alloc o).grownBy w3 v.ownBlock) : Below W.heap.size W w3 :=
 ((hb.trans (bf.mono hb.size)).alloc (Nat.le_trans hb.size bf.size) o).grown g3 (Nat.le_trans (Nat.le_trans hb.size bf.size) (by show WF.heap.size ≤ (WF.heap.push _).size; simp)) fun i e => (own.lt i e).1
theorem tail_belowD {W wr WF w3 : World} {v : Value} {toks : List LxM.T} {o : Obj} (own : TRow wr W.heap.size v toks) (hb : Below W.heap.size W wr) (bf : Below wr.heap.size wr WF) (g3 : (WF.alloc o).drew.grownBy w3 v.ownBlock) : Below W.heap.size W w3 :=
 ((hb.trans (bf.mono hb.size)).alloc (Nat.le_trans hb.size bf.size) o).drew.grown g3 (Nat.le_trans (Nat.le_trans hb.size bf.size) (by show WF.heap.size ≤ (WF.heap.push _).size; simp)) fun i e => (own.lt i e).1
theorem blk_set {W : World} {b : Nat} {cs : Array Value} {t : TypeId} (h : Blk W b cs t) (i : Nat) (u : Value) : Blk (W.setCell ⟨b, i, none⟩ u) b (cs.setIfInBounds i u) t := by
 have h : W.heap[b]? = _ := h
 show (W.setCell ⟨b, i, none⟩ u).heap[b]? = _
 simp [World.setCell, Array.getElem?_modify, h]
section
variable {s : ByteArray} {k r : Nat} {c : UInt8} (h : k < s.size) (ec : s[k] = c) (er : rn s k = r)
include h ec
include er in
theorem tk_name' (hl : LxM.lt (LxM.i c) = true) (h32 : r - k ≤ 32) : LxM.tk (s.data.toList.drop k) = some (⟨if LxM.isWord (s.extract k r).data.toList then 1 else 2, (s.extract k r).data.toList, 0, 0⟩, s.data.toList.drop r) := by
 subst ec; subst er; exact tk_name h hl h32
include er in
theorem tk_long' (hl : LxM.lt (LxM.i c) = true) (h32 : 32 < r - k) : LxM.tk (s.data.toList.drop k) = none := by
 subst ec; subst er; exact tk_long h hl h32
include er in
theorem tk_int' (hl : LxM.lt (LxM.i c) = false) (hd : LxM.dg (LxM.i c) = true) : LxM.tk (s.data.toList.drop k) = (LxM.num (s.extract k r).data.toList).map fun v => (⟨3, [], v, 0⟩, s.data.toList.drop r) := by
 subst ec; subst er; exact tk_int h hl hd
theorem tk_str' (hl : LxM.lt (LxM.i c) = false) (hd : LxM.dg (LxM.i c) = false) (hm : c = 34 ∨ c = 39) : LxM.tk (s.data.toList.drop k) = (LxM.qs c (s.data.toList.drop (k + 1))).map fun x => (⟨4, x.1, 0, 0⟩, x.2) := by
 subst ec; exact tk_str h hl hd hm
theorem tk_sign' {n : Nat} (en : sg (s.data.toList.drop k) = n) (hl : LxM.lt (LxM.i c) = false) (hd : LxM.dg (LxM.i c) = false) (hm : ¬ (c = 34 ∨ c = 39)) : LxM.tk (s.data.toList.drop k) = if n = 0 then none else some (⟨5, (s.extract k (k + n)).data.toList, 0, 0⟩, s.data.toList.drop (k + n)) := by
 subst ec; subst en; exact tk_sign h hl hd hm
end
/-- The places go on. -/
theorem lexT_next (s : ByteArray) (k e : Nat) (hk : k ≤ s.size) (t : LxM.T) (toks : List LxM.T) (F : LxM.Ans) (hF : F = (LxM.lexT s.size (s.data.toList.drop k)).pre toks) (ht : LxM.tk (s.data.toList.drop k) = some (t, s.data.toList.drop e)) : F = (LxM.lexT s.size (s.data.toList.drop (sp s e))).pre (toks ++ [{ t with at_ := k }]) := by
 rw [hF, LxM.lexT_ok _ _ _ _ ht, LxM.Ans.pre_pre, sp_drop]
 have : s.size - (s.data.toList.drop k).length = k := by
  rw [List.length_drop]
  have : s.data.toList.length = s.size := by simp
  omega
 rw [this]
 rfl
theorem lexT_none (s : ByteArray) (k : Nat) (hk : k < s.size) (toks : List LxM.T) (F : LxM.Ans) (hF : F = (LxM.lexT s.size (s.data.toList.drop k)).pre toks) (ht : LxM.tk (s.data.toList.drop k) = none) : F = .bad k := by
 have hl : s.data.toList.length = s.size := by simp
 have : s.size - (s.data.toList.drop k).length = k := by rw [List.length_drop]; omega
 rw [hF, LxM.lexT_bad _ _ (by intro e; have := congrArg List.length e; rw [List.length_drop] at this; simp at this; omega) ht, this]
 rfl
/-- What the document's Lex returns. -/
def LRes (F : LxM.Ans) (W : World) (e : Ending) (W' : World) : Prop :=
 (∃ tv err p, e = .returned (.tuple #[tv, .int .i64 err, .int .i64 p]) ∧
  match F with
  | .ok l => err = 0 ∧ p = 0 ∧ TRow W' W.heap.size tv l
  | .bad q => err = 14 ∧ p = (q : Int) ∧ tv = .slice none 0 0) ∧ Below W.heap.size W W'
set_option maxRecDepth 20000 in
set_option maxHeartbeats 8000000 in
theorem rlex_any (W : World) (s : ByteArray) (hs : s.size ≤ 2000) :
  Calls Try.prog 15 #[.string s] W (LRes (LxM.lex s.data.toList) W) := by
 have RSK := Lib.hid (fun k (h : k ≤ s.size) w => rskip_any s k w h (by omega))
 have RUN := Lib.hid (fun k (h : k ≤ s.size) w => run_any s k w h (by omega))
 have SZ := Lib.hid hs
 have hs2 : (s.size : Int) ≤ 2000 := by omega
 have R0 := fun w => rskip_any s 0 w (Nat.zero_le _) (by omega)
 have S0 := sp_le s 0
 have F0 : LxM.lex s.data.toList = LxM.lexT s.size (s.data.toList.drop (sp s 0)) := by
  rw [sp_drop, List.drop_zero]
  unfold LxM.lex LxM.lexS
  rw [show s.data.toList.length = s.size by simp]
 generalize sp s 0 = k0 at *
 have R0 : ∀ w, Calls Try.prog 24 #[.string s, .int .i64 0] w fun e w' => e = .returned (.int .i64 (k0 : Int)) ∧ w = w' := R0
 have HF0 := Lib.hid F0
 have HS0 := Lib.hid S0
 clear F0 S0 hs
 obtain ⟨F, hF⟩ : ∃ F, LxM.lex s.data.toList = F := ⟨_, rfl⟩
 rw [hF] at HF0 ⊢
 clear hF
 go_enter Try.func15, Try.ntmps15
 go_wp2_with (go_at_call 24; refine (R0 _).mono ?_; rintro e w' ⟨rfl, rfl⟩)
 clear R0
 go_loopw [5, 6] (fun d i wr => ∃ (k : Nat) (toks : List LxM.T), k ≤ s.size ∧ i = .int .i64 k ∧ toks.length ≤ k ∧ F = (LxM.lexT s.size (s.data.toList.drop k)).pre toks ∧ TRow wr W.heap.size d toks ∧ Below W.heap.size W wr) (fun _ i _ => s.size - (intOf i).toNat)
 case atStart => exact ⟨k0, [], HS0.out, rfl, Nat.zero_le _, by rw [LxM.Ans.pre_nil]; exact HF0.out, ⟨rfl, .inl ⟨rfl, rfl⟩⟩, Below.refl _ _⟩
 case round =>
  obtain ⟨k, toks, hk, rfl, hlen, hF, own, hb⟩ := hrel
  have HF := Lib.hid hF
  have OWN := Lib.hid own
  have HB := Lib.hid hb
  have LEN := Lib.hid hlen
  have k0' : (0 : Int) ≤ (k : Int) := by omega
  clear hF own hb hlen HF0 HS0
  by_cases hlt : k < s.size
  ·have k1 : (k : Int) < (s.size : Int) := by omega
   have RK := fun w => RUN.out k hk w
   have rle := rn_le s k hk
   have rge := rn_ge s k
   have RGT := Lib.hid (fun h => rn_gt s k hlt h)
   have LE := fun w => rlet_any s[k] w
   have DI := fun w => rdig_any s[k] w
   have BK0 := Lib.hid (Blk.new wr #[.int .i64 0, .string ⟨#[]⟩, .int .i64 0, .int .i64 0] 51)
   have BX := Lib.hid (below_row ((Below.refl wr.heap.size wr).alloc (Nat.le_refl _) (.cells #[.int .i64 0, .string ⟨#[]⟩, .int .i64 0, .int .i64 0] 51)) wr.heap.size (Nat.le_refl _) #[.int .i64 0, .string ⟨#[]⟩, .int .i64 0, .int .i64 (k : Int)])
   have BR := Lib.hid (box_row wr #[.int .i64 0, .string ⟨#[]⟩, .int .i64 0, .int .i64 0] #[.int .i64 0, .string ⟨#[]⟩, .int .i64 0, .int .i64 (k : Int)])
   obtain ⟨c, ec⟩ : ∃ c, s[k] = c := ⟨_, rfl⟩
   obtain ⟨r, er⟩ : ∃ r, rn s k = r := ⟨_, rfl⟩
   have TKN := Lib.hid (fun h1 h2 => tk_name' hlt ec er h1 h2)
   have TKL := Lib.hid (fun h1 h2 => tk_long' hlt ec er h1 h2)
   have TKI := Lib.hid (fun h1 h2 => tk_int' hlt ec er h1 h2)
   have TKQ := Lib.hid (fun h1 h2 h3 => tk_str' hlt ec h1 h2 h3)
   have TKS := Lib.hid (fun (n : Nat) en h1 h2 h3 => tk_sign' (n := n) hlt ec en h1 h2 h3)
   unfold LxM.wd at RGT
   rw [ec] at LE DI RGT
   rw [er] at RK rle rge RGT
   clear er
   have r0 : (0 : Int) ≤ (r : Int) := by omega
   have r1 : (r : Int) ≤ (s.size : Int) := by omega
   have r2 : (k : Int) ≤ (r : Int) := by omega
   have w1 : wrap64 ((r : Int) - (k : Int)) = (r : Int) - (k : Int) := by unfold wrap64; omega
   obtain ⟨lv, elv⟩ : ∃ lv, LxM.lt (LxM.i c) = lv := ⟨_, rfl⟩
   obtain ⟨dv, edv⟩ : ∃ dv, LxM.dg (LxM.i c) = dv := ⟨_, rfl⟩
   rw [elv] at LE TKN TKL TKI TKQ TKS RGT
   rw [edv] at DI TKI TKQ TKS RGT
   have RSR := Lib.hid (fun w => RSK.out r rle w)
   have spr := sp_le s r
   have spg := sp_ge s r rle
   have NX := Lib.hid (fun t => lexT_next s k r hk t toks F HF.out)
   have NO := Lib.hid (lexT_none s k hlt toks F HF.out)
   clear elv edv
   cases lv
   ·cases dv
    ·by_cases hm : c = 34 ∨ c = 39
     ·have RQ := fun w => rquoted_any s k w c hlt (by omega) ec hm
      have TKQ := TKQ.out rfl rfl hm
      have QLEN : ∀ o rr, LxM.qs c (s.data.toList.drop (k + 1)) = some (o, rr) → rr.length < s.size - (k + 1) := fun o rr h => by
       unfold LxM.qs at h
       have h2 := (Option.filter_eq_some_iff.1 h).1
       have h3 := LxM.qt_len _ _ _ _ _ (Nat.le_refl _) h2
       simpa using h3
      obtain ⟨Q, eQ⟩ : ∃ Q, LxM.qs c (s.data.toList.drop (k + 1)) = Q := ⟨_, rfl⟩
      rw [eQ] at RQ TKQ QLEN
      clear eQ
      have HG : ((c.toNat : Int) == 34) = true ∨ ((c.toNat : Int) == 34) = false ∧ ((c.toNat : Int) == 39) = true := by
       rcases hm with rfl | rfl
       ·exact .inl rfl
       ·exact .inr ⟨rfl, rfl⟩
      clear hm
      cases Q with
      | none =>
       have TK := Lib.hid TKQ
       unfold QTx at RQ
       clear TKQ QLEN
       rcases HG with g1 | ⟨g1, g2⟩
       all_goals
        go_wp2_with (first
         |(refine wpList_store_row rfl 51 (.tmp 7) (.tmp 25) rfl wr.heap.size #[.int .i64 0, .string ⟨#[]⟩, .int .i64 0, .int .i64 (k : Int)] rfl rfl 51 _ BK0.out sizeT rfl (one4 _ _ _ _) ?_; obtain ⟨w1, hw1, B1, K1⟩ : ∃ w1, w1 = (wr.alloc (.cells #[.int .i64 0, .string ⟨#[]⟩, .int .i64 0, .int .i64 0] 51)).setRow wr.heap.size #[.int .i64 0, .string ⟨#[]⟩, .int .i64 0, .int .i64 (k : Int)] ∧ Hid (Below wr.heap.size wr w1) ∧ Hid (Blk w1 wr.heap.size #[.int .i64 0, .string ⟨#[]⟩, .int .i64 0, .int .i64 (k : Int)] 51) := ⟨_, rfl, BX, BR⟩; rw [← hw1]; clear hw1 BX BR BK0; obtain ⟨⟨c0, c1, c2, c3⟩, f0, f1, f2, f3⟩ := K1.out.four)
         |(go_at_call 25; with_reducible refine (RK _).mono ?_; rintro e w' ⟨rfl, rfl⟩)
         |(go_at_call 26; with_reducible refine (LE _).mono ?_; rintro e w' ⟨rfl, rfl⟩)
         |(go_at_call 28; with_reducible refine (DI _).mono ?_; rintro e w' ⟨rfl, rfl⟩)
         |(go_at_call 30; with_reducible refine (RQ _).mono ?_; rintro e w2 ⟨⟨t, p, rfl⟩, b2⟩; have B2 := Lib.hid (B1.out.trans (b2.mono B1.out.size)); clear b2))
        go_ret3
        have FB := NO.out TK.out
        rw [FB]
        exact ⟨⟨_, _, _, rfl, rfl, rfl, rfl⟩, HB.out.trans (B2.out.mono HB.out.size)⟩
      | some x =>
       obtain ⟨o, rr⟩ := x
       have TK := Lib.hid TKQ
       have QL := Lib.hid (QLEN o rr rfl)
       unfold QTx at RQ
       dsimp only at RQ
       clear TKQ QLEN
       have TO : Hid (∀ WF : World, Below wr.heap.size wr WF → TRow (WF.alloc (.cells #[.int .i64 4, .string ⟨o.toArray⟩, .int .i64 0, .int .i64 (k : Int)] 51)) W.heap.size u5 toks ∧ (WF.alloc (.cells #[.int .i64 4, .string ⟨o.toArray⟩, .int .i64 0, .int .i64 (k : Int)] 51)).heap[WF.heap.size]? = some (.cells (tcs ⟨4, o, 0, k⟩) 51 (0, 0)) ∧ W.heap.size ≤ (WF.alloc (.cells #[.int .i64 4, .string ⟨o.toArray⟩, .int .i64 0, .int .i64 (k : Int)] 51)).heap.size) := fun WF bf => tail_ok OWN.out HB.out bf _ ⟨4, o, 0, k⟩ (by unfold tcs; first | rfl | rw [ba_eta])
       have L5 : Hid (toks.length ≤ 100000) := (by have := LEN.out; omega : toks.length ≤ 100000)
       rcases HG with g1 | ⟨g1, g2⟩
       all_goals
        go_wp2_with (first
         |(refine wpList_store_row rfl 51 (.tmp 7) (.tmp 25) rfl wr.heap.size #[.int .i64 0, .string ⟨#[]⟩, .int .i64 0, .int .i64 (k : Int)] rfl rfl 51 _ BK0.out sizeT rfl (one4 _ _ _ _) ?_; obtain ⟨w1, hw1, B1, K1⟩ : ∃ w1, w1 = (wr.alloc (.cells #[.int .i64 0, .string ⟨#[]⟩, .int .i64 0, .int .i64 0] 51)).setRow wr.heap.size #[.int .i64 0, .string ⟨#[]⟩, .int .i64 0, .int .i64 (k : Int)] ∧ Hid (Below wr.heap.size wr w1) ∧ Hid (Blk w1 wr.heap.size #[.int .i64 0, .string ⟨#[]⟩, .int .i64 0, .int .i64 (k : Int)] 51) := ⟨_, rfl, BX, BR⟩; rw [← hw1]; clear hw1 BX BR BK0; obtain ⟨⟨c0, c1, c2, c3⟩, f0, f1, f2, f3⟩ := K1.out.four)
         |(go_at_call 25; with_reducible refine (RK _).mono ?_; rintro e w' ⟨rfl, rfl⟩)
         |(go_at_call 26; with_reducible refine (LE _).mono ?_; rintro e w' ⟨rfl, rfl⟩)
         |(go_at_call 28; with_reducible refine (DI _).mono ?_; rintro e w' ⟨rfl, rfl⟩)
         |(go_at_call 30; with_reducible refine (RQ _).mono ?_; rintro e w2 ⟨⟨p, hp, hrr, rfl⟩, b2⟩; have B2 := Lib.hid (B1.out.trans (b2.mono B1.out.size)); have K2 := Lib.hid (K1.out.keep b2); clear c0 c1 c2 c3 f0 f1 f2 f3 b2; obtain ⟨⟨c0, c1, c2, c3⟩, f0, f1, f2, f3⟩ := K2.out.four; have HRR := Lib.hid hrr; have RSP := Lib.hid (fun w => RSK.out p hp w); have HPP := Lib.hid hp; clear hrr)
         |(at_builtin; refine wpList_append_tok rfl (.tmp 110) (.tmp 112) rfl W.heap.size u5 toks ?_ ?_ w2.heap.size ?_ ⟨4, o, 0, k⟩ 51 (0, 0) ?_ ?_ ?_ ?_; rfl; exact (TO.out _ (below_put (below_put B2.out 0 (.int .i64 4) wr.heap.size (Nat.le_refl _)) 1 (.string ⟨o.toArray⟩) wr.heap.size (Nat.le_refl _))).1; rfl; (have h := (TO.out _ (below_put (below_put B2.out 0 (.int .i64 4) wr.heap.size (Nat.le_refl _)) 1 (.string ⟨o.toArray⟩) wr.heap.size (Nat.le_refl _))).2.1; (try simp only [World.size_setCell] at h); exact h); exact L5.out; exact (TO.out _ (below_put (below_put B2.out 0 (.int .i64 4) wr.heap.size (Nat.le_refl _)) 1 (.string ⟨o.toArray⟩) wr.heap.size (Nat.le_refl _))).2.2; intro v2 w3 own3 g3; have OWN3 := Lib.hid own3; have B3 := Lib.hid (tail_below OWN.out HB.out (below_put (below_put B2.out 0 (.int .i64 4) wr.heap.size (Nat.le_refl _)) 1 (.string ⟨o.toArray⟩) wr.heap.size (Nat.le_refl _)) g3); clear own3 g3)
         |(go_at_call 24; with_reducible refine (RSP.out _).mono ?_; rintro e w' ⟨rfl, rfl⟩))
        have spr := sp_le s p
        have spg := sp_ge s p HPP.out
        have kp : k < p := by
         have h1 := QL.out
         rw [HRR.out, List.length_drop] at h1
         have : s.data.toList.length = s.size := by simp
         omega
        have tk := TK.out
        rw [HRR.out] at tk
        refine ⟨⟨sp s p, toks ++ [⟨4, o, 0, k⟩], spr, rfl, ?_, lexT_next s k p hk _ toks F HF.out tk, OWN3.out, B3.out⟩, ?_⟩
        ·have := LEN.out; have := kp; rw [List.length_append]; show toks.length + 1 ≤ _; omega
        ·have := kp; show s.size - ((sp s p : Nat) : Int).toNat < s.size - ((k : Int)).toNat; omega
     ·have SGL := sg_le hlt
      have RSG := fun w => rsign_any s k w hlt (by omega)
      obtain ⟨n, en⟩ : ∃ n, sg (s.data.toList.drop k) = n := ⟨_, rfl⟩
      have TK := Lib.hid (TKS.out n en rfl rfl hm)
      rw [en] at RSG SGL
      clear en
      have g1 : ((c.toNat : Int) == 34) = false := ne_b 34 rfl (fun e => hm (.inl e))
      have g2 : ((c.toNat : Int) == 39) = false := ne_b 39 rfl (fun e => hm (.inr e))
      clear hm
      by_cases n0 : n = 0
      ·have g3 : ((n : Int) == 0) = true := by rw [n0]; rfl
       have TK2 := Lib.hid (show LxM.tk (s.data.toList.drop k) = none by rw [TK.out, if_pos n0])
       go_wp2_with (first
        |(refine wpList_store_row rfl 51 (.tmp 7) (.tmp 25) rfl wr.heap.size #[.int .i64 0, .string ⟨#[]⟩, .int .i64 0, .int .i64 (k : Int)] rfl rfl 51 _ BK0.out sizeT rfl (one4 _ _ _ _) ?_; obtain ⟨w1, hw1, B1, K1⟩ : ∃ w1, w1 = (wr.alloc (.cells #[.int .i64 0, .string ⟨#[]⟩, .int .i64 0, .int .i64 0] 51)).setRow wr.heap.size #[.int .i64 0, .string ⟨#[]⟩, .int .i64 0, .int .i64 (k : Int)] ∧ Hid (Below wr.heap.size wr w1) ∧ Hid (Blk w1 wr.heap.size #[.int .i64 0, .string ⟨#[]⟩, .int .i64 0, .int .i64 (k : Int)] 51) := ⟨_, rfl, BX, BR⟩; rw [← hw1]; clear hw1 BX BR BK0; obtain ⟨⟨c0, c1, c2, c3⟩, f0, f1, f2, f3⟩ := K1.out.four)
        |(go_at_call 25; with_reducible refine (RK _).mono ?_; rintro e w' ⟨rfl, rfl⟩)
        |(go_at_call 26; with_reducible refine (LE _).mono ?_; rintro e w' ⟨rfl, rfl⟩)
        |(go_at_call 28; with_reducible refine (DI _).mono ?_; rintro e w' ⟨rfl, rfl⟩)
        |(go_at_call 31; with_reducible refine (RSG _).mono ?_; rintro e w2 ⟨rfl, b2⟩; have B2 := Lib.hid (B1.out.trans (b2.mono B1.out.size)); have K2 := Lib.hid (K1.out.keep b2); clear c0 c1 c2 c3 f0 f1 f2 f3 b2; obtain ⟨⟨c0, c1, c2, c3⟩, f0, f1, f2, f3⟩ := K2.out.four))
       go_ret3
       have FB := NO.out TK2.out
       rw [FB]
       exact ⟨⟨_, _, _, rfl, rfl, rfl, rfl⟩, HB.out.trans (B2.out.mono HB.out.size)⟩
      ·have g3 : ((n : Int) == 0) = false := by rw [beq_eq_false_iff_ne]; omega
       have TK2 := Lib.hid (show LxM.tk (s.data.toList.drop k) = _ by rw [TK.out, if_neg n0])
       obtain ⟨q, eq⟩ : ∃ q, k + n = q := ⟨_, rfl⟩
       rw [eq] at TK2 SGL
       have wq : wrap64 ((k : Int) + (n : Int)) = (q : Int) := by unfold wrap64; omega
       have iq : IntKind.i64.wrap ((k : Int) + (n : Int)) = (q : Int) := by rw [IntKind.wrap_i64]; omega
       have q0 : (0 : Int) ≤ (q : Int) := by omega
       have q1 : (q : Int) ≤ (s.size : Int) := by omega
       have q2 : (k : Int) ≤ (q : Int) := by omega
       have RSP := Lib.hid (fun w => RSK.out q SGL w)
       go_wp2_with (first
        |(refine wpList_store_row rfl 51 (.tmp 7) (.tmp 25) rfl wr.heap.size #[.int .i64 0, .string ⟨#[]⟩, .int .i64 0, .int .i64 (k : Int)] rfl rfl 51 _ BK0.out sizeT rfl (one4 _ _ _ _) ?_; obtain ⟨w1, hw1, B1, K1⟩ : ∃ w1, w1 = (wr.alloc (.cells #[.int .i64 0, .string ⟨#[]⟩, .int .i64 0, .int .i64 0] 51)).setRow wr.heap.size #[.int .i64 0, .string ⟨#[]⟩, .int .i64 0, .int .i64 (k : Int)] ∧ Hid (Below wr.heap.size wr w1) ∧ Hid (Blk w1 wr.heap.size #[.int .i64 0, .string ⟨#[]⟩, .int .i64 0, .int .i64 (k : Int)] 51) := ⟨_, rfl, BX, BR⟩; rw [← hw1]; clear hw1 BX BR BK0; obtain ⟨⟨c0, c1, c2, c3⟩, f0, f1, f2, f3⟩ := K1.out.four)
        |(go_at_call 25; with_reducible refine (RK _).mono ?_; rintro e w' ⟨rfl, rfl⟩)
        |(go_at_call 26; with_reducible refine (LE _).mono ?_; rintro e w' ⟨rfl, rfl⟩)
        |(go_at_call 28; with_reducible refine (DI _).mono ?_; rintro e w' ⟨rfl, rfl⟩)
        |(go_at_call 31; with_reducible refine (RSG _).mono ?_; rintro e w2 ⟨rfl, b2⟩; have B2 := Lib.hid (B1.out.trans (b2.mono B1.out.size)); have K2 := Lib.hid (K1.out.keep b2); clear c0 c1 c2 c3 f0 f1 f2 f3 b2; obtain ⟨⟨c0, c1, c2, c3⟩, f0, f1, f2, f3⟩ := K2.out.four))
       go_region
       have spr := sp_le s q
       have spg := sp_ge s q SGL
       have kp : k < q := by omega
       have TO : Hid (∀ WF : World, Below wr.heap.size wr WF → TRow (WF.alloc (.cells #[.int .i64 5, .string (s.extract k q), .int .i64 0, .int .i64 (k : Int)] 51)) W.heap.size u5 toks ∧ (WF.alloc (.cells #[.int .i64 5, .string (s.extract k q), .int .i64 0, .int .i64 (k : Int)] 51)).heap[WF.heap.size]? = some (.cells (tcs ⟨5, (s.extract k q).data.toList, 0, k⟩) 51 (0, 0)) ∧ W.heap.size ≤ (WF.alloc (.cells #[.int .i64 5, .string (s.extract k q), .int .i64 0, .int .i64 (k : Int)] 51)).heap.size) := fun WF bf => tail_ok OWN.out HB.out bf _ ⟨5, (s.extract k q).data.toList, 0, k⟩ (by unfold tcs; first | rfl | rw [ba_eta])
       have L5 : Hid (toks.length ≤ 100000) := (by have := LEN.out; omega : toks.length ≤ 100000)
       go_wp2_with (first
        |(at_builtin; refine wpList_append_tok rfl (.tmp 110) (.tmp 112) rfl W.heap.size u5 toks ?_ ?_ w2.heap.size ?_ ⟨5, (s.extract k q).data.toList, 0, k⟩ 51 (0, 0) ?_ ?_ ?_ ?_; rfl; exact (TO.out _ (below_put (below_put B2.out 0 (.int .i64 5) wr.heap.size (Nat.le_refl _)) 1 (.string (s.extract k q)) wr.heap.size (Nat.le_refl _))).1; rfl; (have h := (TO.out _ (below_put (below_put B2.out 0 (.int .i64 5) wr.heap.size (Nat.le_refl _)) 1 (.string (s.extract k q)) wr.heap.size (Nat.le_refl _))).2.1; (try simp only [World.size_setCell] at h); exact h); exact L5.out; exact (TO.out _ (below_put (below_put B2.out 0 (.int .i64 5) wr.heap.size (Nat.le_refl _)) 1 (.string (s.extract k q)) wr.heap.size (Nat.le_refl _))).2.2; intro v2 w3 own3 g3; have OWN3 := Lib.hid own3; have B3 := Lib.hid (tail_belowD OWN.out HB.out (below_put (below_put B2.out 0 (.int .i64 5) wr.heap.size (Nat.le_refl _)) 1 (.string (s.extract k q)) wr.heap.size (Nat.le_refl _)) g3); clear own3 g3)
        |(go_at_call 24; with_reducible refine (RSP.out _).mono ?_; rintro e w' ⟨rfl, rfl⟩))
       refine ⟨⟨sp s q, toks ++ [⟨5, (s.extract k q).data.toList, 0, k⟩], spr, rfl, ?_, lexT_next s k q hk _ toks F HF.out TK2.out, OWN3.out, B3.out⟩, ?_⟩
       ·have := LEN.out; have := kp; rw [List.length_append]; show toks.length + 1 ≤ _; omega
       ·have := kp; show s.size - ((sp s q : Nat) : Int).toNat < s.size - ((k : Int)).toNat; omega
    ·have RWH := fun w => rwhole_any (s.extract k r) w (by rw [ByteArray.size_extract]; omega)
     have TKI := TKI.out rfl rfl
     obtain ⟨nv, env⟩ : ∃ nv, LxM.num (s.extract k r).data.toList = nv := ⟨_, rfl⟩
     rw [env] at RWH TKI
     clear env
     cases nv with
     | none =>
      have TK := Lib.hid TKI
      unfold whl at RWH
      clear TKI
      go_wp2_with (first
       |(refine wpList_store_row rfl 51 (.tmp 7) (.tmp 25) rfl wr.heap.size #[.int .i64 0, .string ⟨#[]⟩, .int .i64 0, .int .i64 (k : Int)] rfl rfl 51 _ BK0.out sizeT rfl (one4 _ _ _ _) ?_; obtain ⟨w1, hw1, B1, K1⟩ : ∃ w1, w1 = (wr.alloc (.cells #[.int .i64 0, .string ⟨#[]⟩, .int .i64 0, .int .i64 0] 51)).setRow wr.heap.size #[.int .i64 0, .string ⟨#[]⟩, .int .i64 0, .int .i64 (k : Int)] ∧ Hid (Below wr.heap.size wr w1) ∧ Hid (Blk w1 wr.heap.size #[.int .i64 0, .string ⟨#[]⟩, .int .i64 0, .int .i64 (k : Int)] 51) := ⟨_, rfl, BX, BR⟩; rw [← hw1]; clear hw1 BX BR BK0; obtain ⟨⟨c0, c1, c2, c3⟩, f0, f1, f2, f3⟩ := K1.out.four)
       |(go_at_call 25; with_reducible refine (RK _).mono ?_; rintro e w' ⟨rfl, rfl⟩)
       |(go_at_call 26; with_reducible refine (LE _).mono ?_; rintro e w' ⟨rfl, rfl⟩)
       |(go_at_call 28; with_reducible refine (DI _).mono ?_; rintro e w' ⟨rfl, rfl⟩)
       |(go_at_call 29; with_reducible refine (RWH _).mono ?_; rintro e w' ⟨rfl, rfl⟩))
      go_ret3
      have FB := NO.out TK.out
      rw [FB]
      exact ⟨⟨_, _, _, rfl, rfl, rfl, rfl⟩, HB.out.trans ((below_put B1.out 0 (.int .i64 3) wr.heap.size (Nat.le_refl _)).mono HB.out.size)⟩
     | some v =>
      have TK := Lib.hid TKI
      unfold whl at RWH
      clear TKI
      have TO : Hid (∀ WF : World, Below wr.heap.size wr WF → TRow (WF.alloc (.cells #[.int .i64 3, .string ⟨#[]⟩, .int .i64 v, .int .i64 (k : Int)] 51)) W.heap.size u5 toks ∧ (WF.alloc (.cells #[.int .i64 3, .string ⟨#[]⟩, .int .i64 v, .int .i64 (k : Int)] 51)).heap[WF.heap.size]? = some (.cells (tcs ⟨3, [], v, k⟩) 51 (0, 0)) ∧ W.heap.size ≤ (WF.alloc (.cells #[.int .i64 3, .string ⟨#[]⟩, .int .i64 v, .int .i64 (k : Int)] 51)).heap.size) := fun WF bf => tail_ok OWN.out HB.out bf _ ⟨3, [], v, k⟩ (by unfold tcs; first | rfl | rw [ba_eta])
      have L5 : Hid (toks.length ≤ 100000) := (by have := LEN.out; omega : toks.length ≤ 100000)
      go_wp2_with (first
       |(refine wpList_store_row rfl 51 (.tmp 7) (.tmp 25) rfl wr.heap.size #[.int .i64 0, .string ⟨#[]⟩, .int .i64 0, .int .i64 (k : Int)] rfl rfl 51 _ BK0.out sizeT rfl (one4 _ _ _ _) ?_; obtain ⟨w1, hw1, B1, K1⟩ : ∃ w1, w1 = (wr.alloc (.cells #[.int .i64 0, .string ⟨#[]⟩, .int .i64 0, .int .i64 0] 51)).setRow wr.heap.size #[.int .i64 0, .string ⟨#[]⟩, .int .i64 0, .int .i64 (k : Int)] ∧ Hid (Below wr.heap.size wr w1) ∧ Hid (Blk w1 wr.heap.size #[.int .i64 0, .string ⟨#[]⟩, .int .i64 0, .int .i64 (k : Int)] 51) := ⟨_, rfl, BX, BR⟩; rw [← hw1]; clear hw1 BX BR BK0; obtain ⟨⟨c0, c1, c2, c3⟩, f0, f1, f2, f3⟩ := K1.out.four)
       |(go_at_call 25; with_reducible refine (RK _).mono ?_; rintro e w' ⟨rfl, rfl⟩)
       |(go_at_call 26; with_reducible refine (LE _).mono ?_; rintro e w' ⟨rfl, rfl⟩)
       |(go_at_call 28; with_reducible refine (DI _).mono ?_; rintro e w' ⟨rfl, rfl⟩)
       |(go_at_call 29; with_reducible refine (RWH _).mono ?_; rintro e w' ⟨rfl, rfl⟩)
       |(at_builtin; refine wpList_append_tok rfl (.tmp 110) (.tmp 112) rfl W.heap.size u5 toks ?_ ?_ w1.heap.size ?_ ⟨3, [], v, k⟩ 51 (0, 0) ?_ ?_ ?_ ?_; rfl; exact (TO.out _ (below_put (below_put B1.out 0 (.int .i64 3) wr.heap.size (Nat.le_refl _)) 2 (.int .i64 v) wr.heap.size (Nat.le_refl _))).1; rfl; (have h := (TO.out _ (below_put (below_put B1.out 0 (.int .i64 3) wr.heap.size (Nat.le_refl _)) 2 (.int .i64 v) wr.heap.size (Nat.le_refl _))).2.1; (try simp only [World.size_setCell] at h); exact h); exact L5.out; exact (TO.out _ (below_put (below_put B1.out 0 (.int .i64 3) wr.heap.size (Nat.le_refl _)) 2 (.int .i64 v) wr.heap.size (Nat.le_refl _))).2.2; intro v2 w3 own3 g3; have OWN3 := Lib.hid own3; have B3 := Lib.hid (tail_below OWN.out HB.out (below_put (below_put B1.out 0 (.int .i64 3) wr.heap.size (Nat.le_refl _)) 2 (.int .i64 v) wr.heap.size (Nat.le_refl _)) g3); clear own3 g3)
       |(go_at_call 24; with_reducible refine (RSR.out _).mono ?_; rintro e w' ⟨rfl, rfl⟩))
      refine ⟨⟨sp s r, toks ++ [⟨3, [], v, k⟩], spr, rfl, ?_, NX.out _ TK.out, OWN3.out, B3.out⟩, ?_⟩
      ·have := LEN.out; have := RGT.out rfl; rw [List.length_append]; show toks.length + 1 ≤ _; omega
      ·have := RGT.out rfl; show s.size - ((sp s r : Nat) : Int).toNat < s.size - ((k : Int)).toNat; omega
   ·have RW := fun w => rword_any (s.extract k r) w
    obtain ⟨wv, ewv⟩ : ∃ wv, LxM.isWord (s.extract k r).data.toList = wv := ⟨_, rfl⟩
    rw [ewv] at RW TKN
    clear ewv
    by_cases h32 : r - k ≤ 32
    ·have q1 : (r : Int) - (k : Int) ≤ 32 := by omega
     have TK := Lib.hid (TKN.out rfl h32)
     cases wv
     ·have TO : Hid (∀ WF : World, Below wr.heap.size wr WF → TRow (WF.alloc (.cells #[.int .i64 2, .string (s.extract k r), .int .i64 0, .int .i64 (k : Int)] 51)) W.heap.size u5 toks ∧ (WF.alloc (.cells #[.int .i64 2, .string (s.extract k r), .int .i64 0, .int .i64 (k : Int)] 51)).heap[WF.heap.size]? = some (.cells (tcs ⟨2, (s.extract k r).data.toList, 0, k⟩) 51 (0, 0)) ∧ W.heap.size ≤ (WF.alloc (.cells #[.int .i64 2, .string (s.extract k r), .int .i64 0, .int .i64 (k : Int)] 51)).heap.size) := fun WF bf => tail_ok OWN.out HB.out bf _ ⟨2, (s.extract k r).data.toList, 0, k⟩ (by unfold tcs; rw [ba_eta])
      have L5 : Hid (toks.length ≤ 100000) := (by have := LEN.out; omega : toks.length ≤ 100000)
      go_wp2_with (first
       |(refine wpList_store_row rfl 51 (.tmp 7) (.tmp 25) rfl wr.heap.size #[.int .i64 0, .string ⟨#[]⟩, .int .i64 0, .int .i64 (k : Int)] rfl rfl 51 _ BK0.out sizeT rfl (one4 _ _ _ _) ?_; obtain ⟨w1, hw1, B1, K1⟩ : ∃ w1, w1 = (wr.alloc (.cells #[.int .i64 0, .string ⟨#[]⟩, .int .i64 0, .int .i64 0] 51)).setRow wr.heap.size #[.int .i64 0, .string ⟨#[]⟩, .int .i64 0, .int .i64 (k : Int)] ∧ Hid (Below wr.heap.size wr w1) ∧ Hid (Blk w1 wr.heap.size #[.int .i64 0, .string ⟨#[]⟩, .int .i64 0, .int .i64 (k : Int)] 51) := ⟨_, rfl, BX, BR⟩; rw [← hw1]; clear hw1 BX BR BK0; obtain ⟨⟨c0, c1, c2, c3⟩, f0, f1, f2, f3⟩ := K1.out.four)
       |(go_at_call 25; with_reducible refine (RK _).mono ?_; rintro e w' ⟨rfl, rfl⟩)
       |(go_at_call 26; with_reducible refine (LE _).mono ?_; rintro e w' ⟨rfl, rfl⟩)
       |(go_at_call 27; with_reducible refine (RW _).mono ?_; rintro e w2 ⟨rfl, b2⟩; have K2 := Lib.hid ((blk0 (blk1 K1.out (.string (s.extract k r))) (.int .i64 2)).keep b2); have B2 := Lib.hid ((below_put (below_put B1.out 1 (.string (s.extract k r)) wr.heap.size (Nat.le_refl _)) 0 (.int .i64 2) wr.heap.size (Nat.le_refl _)).trans (b2.mono (below_put (below_put B1.out 1 (.string (s.extract k r)) wr.heap.size (Nat.le_refl _)) 0 (.int .i64 2) wr.heap.size (Nat.le_refl _)).size)); clear c0 c1 c2 c3 f0 f1 f2 f3 b2; obtain ⟨⟨c0, c1, c2, c3⟩, f0, f1, f2, f3⟩ := K2.out.four)
       |(at_builtin; refine wpList_append_tok rfl (.tmp 110) (.tmp 112) rfl W.heap.size u5 toks ?_ ?_ w2.heap.size ?_ ⟨2, (s.extract k r).data.toList, 0, k⟩ 51 (0, 0) ?_ ?_ ?_ ?_; rfl; exact (TO.out w2 B2.out).1; rfl; exact (TO.out w2 B2.out).2.1; exact L5.out; exact (TO.out w2 B2.out).2.2; intro v2 w3 own3 g3; have OWN3 := Lib.hid own3; have B3 := Lib.hid (tail_below OWN.out HB.out B2.out g3); clear own3 g3)
       |(go_at_call 24; with_reducible refine (RSR.out _).mono ?_; rintro e w' ⟨rfl, rfl⟩))
      refine ⟨⟨sp s r, toks ++ [⟨2, (s.extract k r).data.toList, 0, k⟩], spr, rfl, ?_, NX.out _ TK.out, OWN3.out, B3.out⟩, ?_⟩
      ·have := LEN.out; have := RGT.out rfl; rw [List.length_append]; show toks.length + 1 ≤ _; omega
      ·have := RGT.out rfl; show s.size - ((sp s r : Nat) : Int).toNat < s.size - ((k : Int)).toNat; omega
     ·have TO : Hid (∀ WF : World, Below wr.heap.size wr WF → TRow (WF.alloc (.cells #[.int .i64 1, .string (s.extract k r), .int .i64 0, .int .i64 (k : Int)] 51)) W.heap.size u5 toks ∧ (WF.alloc (.cells #[.int .i64 1, .string (s.extract k r), .int .i64 0, .int .i64 (k : Int)] 51)).heap[WF.heap.size]? = some (.cells (tcs ⟨1, (s.extract k r).data.toList, 0, k⟩) 51 (0, 0)) ∧ W.heap.size ≤ (WF.alloc (.cells #[.int .i64 1, .string (s.extract k r), .int .i64 0, .int .i64 (k : Int)] 51)).heap.size) := fun WF bf => tail_ok OWN.out HB.out bf _ ⟨1, (s.extract k r).data.toList, 0, k⟩ (by unfold tcs; first | rfl | rw [ba_eta])
      have L5 : Hid (toks.length ≤ 100000) := (by have := LEN.out; omega : toks.length ≤ 100000)
      go_wp2_with (first
       |(refine wpList_store_row rfl 51 (.tmp 7) (.tmp 25) rfl wr.heap.size #[.int .i64 0, .string ⟨#[]⟩, .int .i64 0, .int .i64 (k : Int)] rfl rfl 51 _ BK0.out sizeT rfl (one4 _ _ _ _) ?_; obtain ⟨w1, hw1, B1, K1⟩ : ∃ w1, w1 = (wr.alloc (.cells #[.int .i64 0, .string ⟨#[]⟩, .int .i64 0, .int .i64 0] 51)).setRow wr.heap.size #[.int .i64 0, .string ⟨#[]⟩, .int .i64 0, .int .i64 (k : Int)] ∧ Hid (Below wr.heap.size wr w1) ∧ Hid (Blk w1 wr.heap.size #[.int .i64 0, .string ⟨#[]⟩, .int .i64 0, .int .i64 (k : Int)] 51) := ⟨_, rfl, BX, BR⟩; rw [← hw1]; clear hw1 BX BR BK0; obtain ⟨⟨c0, c1, c2, c3⟩, f0, f1, f2, f3⟩ := K1.out.four)
       |(go_at_call 25; with_reducible refine (RK _).mono ?_; rintro e w' ⟨rfl, rfl⟩)
       |(go_at_call 26; with_reducible refine (LE _).mono ?_; rintro e w' ⟨rfl, rfl⟩)
       |(go_at_call 27; with_reducible refine (RW _).mono ?_; rintro e w2 ⟨rfl, b2⟩; have K2 := Lib.hid ((blk0 (blk1 K1.out (.string (s.extract k r))) (.int .i64 2)).keep b2); have B2 := Lib.hid ((below_put (below_put B1.out 1 (.string (s.extract k r)) wr.heap.size (Nat.le_refl _)) 0 (.int .i64 2) wr.heap.size (Nat.le_refl _)).trans (b2.mono (below_put (below_put B1.out 1 (.string (s.extract k r)) wr.heap.size (Nat.le_refl _)) 0 (.int .i64 2) wr.heap.size (Nat.le_refl _)).size)); clear c0 c1 c2 c3 f0 f1 f2 f3 b2; obtain ⟨⟨c0, c1, c2, c3⟩, f0, f1, f2, f3⟩ := K2.out.four)
       |(at_builtin; refine wpList_append_tok rfl (.tmp 110) (.tmp 112) rfl W.heap.size u5 toks ?_ ?_ w2.heap.size ?_ ⟨1, (s.extract k r).data.toList, 0, k⟩ 51 (0, 0) ?_ ?_ ?_ ?_; rfl; exact (TO.out _ (below_put B2.out 0 (.int .i64 1) wr.heap.size (Nat.le_refl _))).1; rfl; (have h := (TO.out _ (below_put B2.out 0 (.int .i64 1) wr.heap.size (Nat.le_refl _))).2.1; (try simp only [World.size_setCell] at h); exact h); exact L5.out; exact (TO.out _ (below_put B2.out 0 (.int .i64 1) wr.heap.size (Nat.le_refl _))).2.2; intro v2 w3 own3 g3; have OWN3 := Lib.hid own3; have B3 := Lib.hid (tail_below OWN.out HB.out (below_put B2.out 0 (.int .i64 1) wr.heap.size (Nat.le_refl _)) g3); clear own3 g3)
       |(go_at_call 24; with_reducible refine (RSR.out _).mono ?_; rintro e w' ⟨rfl, rfl⟩))
      refine ⟨⟨sp s r, toks ++ [⟨1, (s.extract k r).data.toList, 0, k⟩], spr, rfl, ?_, NX.out _ TK.out, OWN3.out, B3.out⟩, ?_⟩
      ·have := LEN.out; have := RGT.out rfl; rw [List.length_append]; show toks.length + 1 ≤ _; omega
      ·have := RGT.out rfl; show s.size - ((sp s r : Nat) : Int).toNat < s.size - ((k : Int)).toNat; omega
    ·have q1 : 32 < (r : Int) - (k : Int) := by omega
     have q2 : ¬ (r : Int) - (k : Int) ≤ 32 := by omega
     have TK := Lib.hid (TKL.out rfl (by omega))
     cases wv
     ·go_wp2_with (first
       |(refine wpList_store_row rfl 51 (.tmp 7) (.tmp 25) rfl wr.heap.size #[.int .i64 0, .string ⟨#[]⟩, .int .i64 0, .int .i64 (k : Int)] rfl rfl 51 _ BK0.out sizeT rfl (one4 _ _ _ _) ?_; obtain ⟨w1, hw1, B1, K1⟩ : ∃ w1, w1 = (wr.alloc (.cells #[.int .i64 0, .string ⟨#[]⟩, .int .i64 0, .int .i64 0] 51)).setRow wr.heap.size #[.int .i64 0, .string ⟨#[]⟩, .int .i64 0, .int .i64 (k : Int)] ∧ Hid (Below wr.heap.size wr w1) ∧ Hid (Blk w1 wr.heap.size #[.int .i64 0, .string ⟨#[]⟩, .int .i64 0, .int .i64 (k : Int)] 51) := ⟨_, rfl, BX, BR⟩; rw [← hw1]; clear hw1 BX BR BK0; obtain ⟨⟨c0, c1, c2, c3⟩, f0, f1, f2, f3⟩ := K1.out.four)
       |(go_at_call 25; with_reducible refine (RK _).mono ?_; rintro e w' ⟨rfl, rfl⟩)
       |(go_at_call 26; with_reducible refine (LE _).mono ?_; rintro e w' ⟨rfl, rfl⟩)
       |(go_at_call 27; with_reducible refine (RW _).mono ?_; rintro e w2 ⟨rfl, b2⟩; have K2 := Lib.hid ((blk0 (blk1 K1.out (.string (s.extract k r))) (.int .i64 2)).keep b2); have B2 := Lib.hid ((below_put (below_put B1.out 1 (.string (s.extract k r)) wr.heap.size (Nat.le_refl _)) 0 (.int .i64 2) wr.heap.size (Nat.le_refl _)).trans (b2.mono (below_put (below_put B1.out 1 (.string (s.extract k r)) wr.heap.size (Nat.le_refl _)) 0 (.int .i64 2) wr.heap.size (Nat.le_refl _)).size)); clear c0 c1 c2 c3 f0 f1 f2 f3 b2; obtain ⟨⟨c0, c1, c2, c3⟩, f0, f1, f2, f3⟩ := K2.out.four))
      go_ret3
      have FB := NO.out TK.out
      rw [FB]
      exact ⟨⟨_, _, _, rfl, rfl, rfl, rfl⟩, HB.out.trans (B2.out.mono HB.out.size)⟩
     ·go_wp2_with (first
       |(refine wpList_store_row rfl 51 (.tmp 7) (.tmp 25) rfl wr.heap.size #[.int .i64 0, .string ⟨#[]⟩, .int .i64 0, .int .i64 (k : Int)] rfl rfl 51 _ BK0.out sizeT rfl (one4 _ _ _ _) ?_; obtain ⟨w1, hw1, B1, K1⟩ : ∃ w1, w1 = (wr.alloc (.cells #[.int .i64 0, .string ⟨#[]⟩, .int .i64 0, .int .i64 0] 51)).setRow wr.heap.size #[.int .i64 0, .string ⟨#[]⟩, .int .i64 0, .int .i64 (k : Int)] ∧ Hid (Below wr.heap.size wr w1) ∧ Hid (Blk w1 wr.heap.size #[.int .i64 0, .string ⟨#[]⟩, .int .i64 0, .int .i64 (k : Int)] 51) := ⟨_, rfl, BX, BR⟩; rw [← hw1]; clear hw1 BX BR BK0; obtain ⟨⟨c0, c1, c2, c3⟩, f0, f1, f2, f3⟩ := K1.out.four)
       |(go_at_call 25; with_reducible refine (RK _).mono ?_; rintro e w' ⟨rfl, rfl⟩)
       |(go_at_call 26; with_reducible refine (LE _).mono ?_; rintro e w' ⟨rfl, rfl⟩)
       |(go_at_call 27; with_reducible refine (RW _).mono ?_; rintro e w2 ⟨rfl, b2⟩; have K2 := Lib.hid ((blk0 (blk1 K1.out (.string (s.extract k r))) (.int .i64 2)).keep b2); have B2 := Lib.hid ((below_put (below_put B1.out 1 (.string (s.extract k r)) wr.heap.size (Nat.le_refl _)) 0 (.int .i64 2) wr.heap.size (Nat.le_refl _)).trans (b2.mono (below_put (below_put B1.out 1 (.string (s.extract k r)) wr.heap.size (Nat.le_refl _)) 0 (.int .i64 2) wr.heap.size (Nat.le_refl _)).size)); clear c0 c1 c2 c3 f0 f1 f2 f3 b2; obtain ⟨⟨c0, c1, c2, c3⟩, f0, f1, f2, f3⟩ := K2.out.four))
      go_ret3
      have FB := NO.out TK.out
      rw [FB]
      exact ⟨⟨_, _, _, rfl, rfl, rfl, rfl⟩, HB.out.trans ((below_put B2.out 0 (.int .i64 1) wr.heap.size (Nat.le_refl _)).mono HB.out.size)⟩
  ·obtain rfl : k = s.size := by omega
   have FE : Hid (F = .ok (toks ++ [⟨0, [], 0, s.size⟩])) := Lib.hid (by rw [HF.out, drop_none s _ (Nat.le_refl _), LxM.lexT_nil]; rfl)
   have BZ := Lib.hid (Below.refl wr.heap.size wr)
   have TO : Hid (∀ WF : World, Below wr.heap.size wr WF → TRow (WF.alloc (.cells #[.int .i64 0, .string ⟨#[]⟩, .int .i64 0, .int .i64 (s.size : Int)] 51)) W.heap.size u5 toks ∧ (WF.alloc (.cells #[.int .i64 0, .string ⟨#[]⟩, .int .i64 0, .int .i64 (s.size : Int)] 51)).heap[WF.heap.size]? = some (.cells (tcs ⟨0, [], 0, s.size⟩) 51 (0, 0)) ∧ W.heap.size ≤ (WF.alloc (.cells #[.int .i64 0, .string ⟨#[]⟩, .int .i64 0, .int .i64 (s.size : Int)] 51)).heap.size) := fun WF bf => tail_ok OWN.out HB.out bf _ ⟨0, [], 0, s.size⟩ (by unfold tcs; first | rfl | rw [ba_eta])
   have L5 : Hid (toks.length ≤ 100000) := (by have := LEN.out; omega : toks.length ≤ 100000)
   go_wp2_with (first
    |(at_builtin; refine wpList_append_tok rfl (.tmp 117) (.tmp 121) rfl W.heap.size u5 toks ?_ ?_ wr.heap.size ?_ ⟨0, [], 0, s.size⟩ 51 (0, 0) ?_ ?_ ?_ ?_; rfl; exact (TO.out _ BZ.out).1; rfl; (have h := (TO.out _ BZ.out).2.1; (try simp only [World.size_setCell] at h); exact h); exact L5.out; exact (TO.out _ BZ.out).2.2; intro v2 w3 own3 g3; have OWN3 := Lib.hid own3; have B3 := Lib.hid (tail_below OWN.out HB.out BZ.out g3); clear own3 g3))
   go_ret3
   have FB := FE.out
   rw [FB]
   exact ⟨⟨_, _, _, rfl, rfl, rfl, OWN3.out⟩, B3.out⟩
end Go.Proofs.Yteakhlnnepjhpaa
