/- The document's own answer: what stands between marks. -/
import Derived.Test.YtikbgkndfmcfhaaDoorLxU5
import Derived.Test.YtikbgkndfmcfhaaDoorLxT
import Derived.Deep.RegionLaw
namespace Go.Proofs.YtikbgkndfmcfhaaDoor
open Go.RowKit
set_option linter.unusedVariables false
/-- What quoted returns. -/
def QT (s : ByteArray) (x : Option (List UInt8 × List UInt8)) (e : Ending) : Prop :=
  match x with
  | some (o, r) => ∃ p : Nat, p ≤ s.size ∧ r = s.data.toList.drop p ∧ e = .returned (.tuple #[.string ⟨o.toArray⟩, .int .i64 (p : Int), .bool true])
  | none => ∃ t p, e = .returned (.tuple #[.string t, .int .i64 p, .bool false])
theorem QT.bad {s : ByteArray} {m : UInt8} {l : List UInt8} (h : LxM.qt m l = none) (t : ByteArray) (p : Int) : QT s (LxM.qs m l) (.returned (.tuple #[.string t, .int .i64 p, .bool false])) := by
  unfold LxM.qs
  rw [h]
  exact ⟨t, p, rfl⟩
theorem QT.long {s : ByteArray} {m : UInt8} {l o r : List UInt8} (h : LxM.qt m l = some (o, r)) (ho : ¬ o.length ≤ 4096) (t : ByteArray) (p : Int) : QT s (LxM.qs m l) (.returned (.tuple #[.string t, .int .i64 p, .bool false])) := by
  unfold LxM.qs
  rw [h, Option.filter_some, if_neg (by simpa using ho)]
  exact ⟨t, p, rfl⟩
theorem QT.good {s : ByteArray} {m : UInt8} {l o : List UInt8} {k : Nat} (h : LxM.qt m l = some (o, s.data.toList.drop k)) (ho : o.length ≤ 4096) (hk : k ≤ s.size) : QT s (LxM.qs m l) (.returned (.tuple #[.string ⟨o.toArray⟩, .int .i64 (k : Int), .bool true])) := by
  unfold LxM.qs
  rw [h, Option.filter_some, if_pos (by simpa using ho)]
  exact ⟨k, hk, rfl, rfl⟩
theorem qt_at (s : ByteArray) (m : UInt8) (j : Nat) (h : j < s.size) : LxM.qt m (s.data.toList.drop j) = if s[j] = m then some ([], s.data.toList.drop (j + 1)) else if s[j] = 10 then none else if s[j] = 92 then LxM.esc m (s.data.toList.drop (j + 1)) else (LxM.qt m (s.data.toList.drop (j + 1))).map fun x => (s[j] :: x.1, x.2) := by
  rw [drop_cons s j h, LxM.qt_cons]
theorem esc_at (s : ByteArray) (m : UInt8) (j : Nat) (h : j < s.size) : LxM.esc m (s.data.toList.drop j) = if s[j] = 110 then (LxM.qt m (s.data.toList.drop (j + 1))).map fun x => (10 :: x.1, x.2)
    else if s[j] = 116 then (LxM.qt m (s.data.toList.drop (j + 1))).map fun x => (9 :: x.1, x.2)
    else if s[j] = 92 ∨ s[j] = 34 ∨ s[j] = 39 then (LxM.qt m (s.data.toList.drop (j + 1))).map fun x => (s[j] :: x.1, x.2)
    else if s[j] = 120 then LxM.hexq m (s.data.toList.drop (j + 1)) else none := by
  rw [drop_cons s j h]; rfl
theorem esc_end (s : ByteArray) (m : UInt8) (j : Nat) (h : s.size ≤ j) : LxM.esc m (s.data.toList.drop j) = none := by
  rw [drop_none s j h]; rfl
theorem hexq_at (s : ByteArray) (m : UInt8) (j : Nat) (h : j + 1 < s.size) : LxM.hexq m (s.data.toList.drop j) = if LxM.hx (LxM.i s[j]) = -1 ∨ LxM.hx (LxM.i s[j + 1]) = -1 then none else (LxM.qt m (s.data.toList.drop (j + 1 + 1))).map fun x => (UInt8.ofNat (LxM.hx (LxM.i s[j]) * 16 + LxM.hx (LxM.i s[j + 1])).toNat :: x.1, x.2) := by
  rw [drop_cons s j (by omega), drop_cons s (j + 1) h]; rfl
theorem hexq_end (s : ByteArray) (m : UInt8) (j : Nat) (h : s.size ≤ j + 1) : LxM.hexq m (s.data.toList.drop j) = none := by
  rcases Nat.lt_or_ge j s.size with h2 | h2
  · rw [drop_cons s j h2, drop_none s (j + 1) h]; rfl
  · rw [drop_none s j h2]; rfl
theorem hx_range (c : UInt8) : LxM.hx (LxM.i c) = -1 ∨ 0 ≤ LxM.hx (LxM.i c) ∧ LxM.hx (LxM.i c) < 16 := by
  unfold LxM.hx LxM.dg
  split
  · rename_i h
    have := of_decide_eq_true (Bool.and_eq_true_iff.1 h).1
    have := of_decide_eq_true (Bool.and_eq_true_iff.1 h).2
    omega
  · split
    · rename_i h
      have := of_decide_eq_true (Bool.and_eq_true_iff.1 h).1
      have := of_decide_eq_true (Bool.and_eq_true_iff.1 h).2
      omega
    · split
      · rename_i h
        have := of_decide_eq_true (Bool.and_eq_true_iff.1 h).1
        have := of_decide_eq_true (Bool.and_eq_true_iff.1 h).2
        omega
      · exact .inl rfl
theorem ne_b {c : UInt8} {n : Int} (x : UInt8) (hx : (x.toNat : Int) = n) (h : c ≠ x) : ((c.toNat : Int) == n) = false := by
  rw [beq_eq_false_iff_ne]; intro e; exact h (UInt8.toNat_inj.1 (by omega))
theorem hex_byte_nat : ∀ p : _root_.Fin 16, ∀ q : _root_.Fin 16, IntKind.u8.wrap (bits BinOp.or IntKind.i64 (IntKind.i64.wrap ((p.val : Int) * 16)) (q.val : Int)) = ((UInt8.ofNat ((p.val : Int) * 16 + (q.val : Int)).toNat).toNat : Int) := by decide +kernel
theorem hex_byte (p q : Int) (p0 : 0 ≤ p) (p1 : p < 16) (q0 : 0 ≤ q) (q1 : q < 16) : IntKind.u8.wrap (bits BinOp.or IntKind.i64 (IntKind.i64.wrap (p * 16)) q) = ((UInt8.ofNat (p * 16 + q).toNat).toNat : Int) := by
  obtain ⟨P, rfl⟩ : ∃ P : Nat, p = (P : Int) := ⟨p.toNat, by omega⟩
  obtain ⟨Q, rfl⟩ : ∃ Q : Nat, q = (Q : Int) := ⟨q.toNat, by omega⟩
  exact hex_byte_nat ⟨P, by omega⟩ ⟨Q, by omega⟩
/-- append of one byte as a step of a drawn region. -/
theorem step_append_byte {w : World} {ops : Array Oper} {o : Oper} {a : Act} {K : Act → World → Prop} {Q : Exit → Act → World → Prop} {E : Prop} (hgd : o.guard = none) (s x : Operand)
    (ho : o.op = .call { callee := .builtin .append, args := #[s, x], argTypes := #[53, 53] })
    (base : Nat) (v : Value) (l : List UInt8) (hs : a.eval s = v) (hown : w.ownsRow base 5 1 v l.length (l.map bv))
    (b : Nat) (hx : a.eval x = .slice (some ⟨b, 0, none⟩) 1 1) (c : UInt8) (hu : w.cell? ⟨b, 0, none⟩ = some (bv c)) (hlen : l.length ≤ 100000) (hb : base ≤ w.heap.size)
    (h : ∀ v' w', w'.ownsRow base 5 1 v' (l.length + [c].length) (l.map bv ++ [c].map bv) → w.grownBy w' v.ownBlock → K (a.put o.dst v') w') :
    if Region.wanted o (yielded ops a.tmps) = true then Oper.wp Tryd.prog o a w K Q else E := by
  have hw : Region.wanted o (yielded ops a.tmps) = true := by simp [Region.wanted, hgd]
  rw [if_pos hw]
  obtain ⟨i, hi, hz, k1, k2⟩ := info_parts info8
  obtain ⟨v', w', hrun, h2, h3, _, _⟩ := run_append_own_at (P := Tryd.prog) w base 53 o.type 5 i _ 1 1 Tryd.underlying53 hi hz k1 k2 rfl (by decide) v l.length (l.map bv) hown ⟨b, 0, none⟩ 1 1 [bv c] rfl (fun j y hy => by
    match j with
    | 0 => simp at hy; subst hy; simpa [Addr.add] using hu
    | j + 1 => simp at hy) (by intro y hy; simp at hy; subst hy; rfl) (by unfold maxLen; omega) (by omega) hb
  unfold Oper.wp
  simp [execOp, ho, resolve, invoke, builtin, hs, hx, hrun, Result.andThen]
  exact h v' w' h2 h3
/-- What holds between two rounds. -/
structure QX (w : World) (dv : Value) (acc : List UInt8) (j : Nat) (W : World) : Prop where
  own : W.ownsRow w.heap.size 5 1 dv acc.length (acc.map bv)
  bel : Below w.heap.size w W
  len : acc.length ≤ j
theorem QX.pushed {w W w2 : World} {dv v2 : Value} {acc : List UInt8} {j : Nat} {o : Obj} {c : UInt8} (h : QX w dv acc j W) (own2 : w2.ownsRow w.heap.size 5 1 v2 (acc.length + [c].length) (acc.map bv ++ [c].map bv)) (g2 : (W.alloc o).grownBy w2 dv.ownBlock) {k : Nat} (hk : j < k) : QX w v2 (acc ++ [c]) k w2 where
  own := by rw [List.map_append, List.length_append]; exact own2
  bel := (h.bel.alloc h.bel.size o).grown g2 (Nat.le_trans h.bel.size (by simp)) fun i e => (h.own.lt i e).1
  len := by rw [List.length_append]; have := h.len; show acc.length + 1 ≤ k; omega
theorem QX.pushedD {w W w2 : World} {dv v2 : Value} {acc : List UInt8} {j : Nat} {o : Obj} {c : UInt8} (h : QX w dv acc j W) (own2 : w2.ownsRow w.heap.size 5 1 v2 (acc.length + [c].length) (acc.map bv ++ [c].map bv)) (g2 : (W.alloc o).drew.grownBy w2 dv.ownBlock) {k : Nat} (hk : j < k) : QX w v2 (acc ++ [c]) k w2 where
  own := by rw [List.map_append, List.length_append]; exact own2
  bel := (h.bel.alloc h.bel.size o).drew.grown g2 (Nat.le_trans h.bel.size (by show W.heap.size ≤ (W.heap.push _).size; simp)) fun i e => (h.own.lt i e).1
  len := by rw [List.length_append]; have := h.len; show acc.length + 1 ≤ k; omega
theorem QX.up {w W : World} {dv : Value} {acc : List UInt8} {j k : Nat} (h : QX w dv acc j W) (hk : j ≤ k) : QX w dv acc k W := ⟨h.own, h.bel, Nat.le_trans h.len hk⟩
set_option maxRecDepth 20000 in
set_option maxHeartbeats 8000000 in
theorem rquoted_any (s : ByteArray) (k : Nat) (w : World) (m : UInt8) (hk : k < s.size) (hs : s.size ≤ 16384) (em : s[k] = m) (hm : m = 34 ∨ m = 39) :
    Calls Tryd.prog 22 #[.string s, .int .i64 (k : Int)] w fun e w' => QT s (LxM.qs m (s.data.toList.drop (k + 1))) e ∧ Below w.heap.size w w' := by
  have k0 : (0 : Int) ≤ (k : Int) := by omega
  have k1 : (k : Int) < (s.size : Int) := by omega
  have wk1 : wrap64 ((k : Int) + 1) = ((k + 1 : Nat) : Int) := by unfold wrap64; omega
  have m10 : m ≠ 10 := by rcases hm with rfl | rfl <;> decide
  have m92 : m ≠ 92 := by rcases hm with rfl | rfl <;> decide
  have M10 := Lib.hid m10
  have M92 := Lib.hid m92
  have SZ := Lib.hid hs
  clear m10 m92 hm
  go_enter Tryd.func22, Tryd.ntmps22
  go_wp2_with fail
  go_loopw [8, 9] (fun d i wr => ∃ (j : Nat) (acc : List UInt8), j ≤ s.size ∧ i = .int .i64 j ∧ LxM.qt m (s.data.toList.drop (k + 1)) = LxM.app acc (LxM.qt m (s.data.toList.drop j)) ∧ QX w d acc j wr) (fun _ i _ => s.size - (intOf i).toNat)
  case atStart => exact ⟨k + 1, [], by omega, rfl, by rw [LxM.app_nil], ⟨rfl, .inl ⟨rfl, rfl⟩⟩, Below.refl _ _, Nat.zero_le _⟩
  case round =>
    obtain ⟨j, acc, hj, rfl, hq, hx⟩ := hrel
    have HQ := Lib.hid hq
    have QX0 := Lib.hid hx
    have OW : Hid (∀ o, (wr.alloc o).ownsRow w.heap.size 5 1 u8 acc.length (acc.map bv)) := fun o => World.ownsRow.alloc hx.own o
    have HB := Lib.hid hx.bel
    have LEN : Hid (acc.length ≤ 16384) := (by have := hx.len; omega : acc.length ≤ 16384)
    have j0 : (0 : Int) ≤ (j : Int) := by omega
    clear hq hx
    by_cases hlt : j < s.size
    · have j1 : (j : Int) < (s.size : Int) := by omega
      have wj1 : wrap64 ((j : Int) + 1) = ((j + 1 : Nat) : Int) := by unfold wrap64; omega
      have QA := Lib.hid (qt_at s m j hlt)
      obtain ⟨c, ec⟩ : ∃ c, s[j] = c := ⟨_, rfl⟩
      rw [ec] at QA
      by_cases h10 : c = 10
      · have f1 : ((c.toNat : Int) == 10) = true := by rw [h10]; rfl
        have QN : Hid (LxM.qt m (s.data.toList.drop (k + 1)) = none) := Lib.hid (by rw [HQ.out, QA.out, if_neg (by rw [h10]; exact fun e => M10.out e.symm), if_pos h10]; rfl)
        clear h10
        go_wp2_with fail
        go_ret3
        exact ⟨QT.bad QN.out _ _, HB.out⟩
      · have f1 : ((c.toNat : Int) == 10) = false := ne_b 10 rfl h10
        by_cases hcm : c = m
        · have f2 : ((c.toNat : Int) == (m.toNat : Int)) = true := by rw [hcm]; exact beq_self_eq_true _
          have QN : Hid (LxM.qt m (s.data.toList.drop (k + 1)) = some (acc, s.data.toList.drop (j + 1))) := Lib.hid (by rw [HQ.out, QA.out, if_pos hcm]; simp [LxM.app])
          clear h10 hcm
          obtain ⟨A, cA, rfl, -, -, hr⟩ := Bs.of_own QX0.out.own
          have cv := convert_bs (w := wr) cA hr
          clear hr
          by_cases h4 : acc.length ≤ 4096
          · have l1 : (acc.length : Int) ≤ 4096 := by omega
            go_wp2_with fail
            go_ret3
            exact ⟨QT.good QN.out h4 hlt, HB.out⟩
          · have l1 : (4096 : Int) < (acc.length : Int) := by omega
            have l2 : ¬ (acc.length : Int) ≤ 4096 := by omega
            go_wp2_with fail
            go_ret3
            exact ⟨QT.long QN.out h4 _ _, HB.out⟩
        · have f2 : ((c.toNat : Int) == (m.toNat : Int)) = false := ne_b m rfl hcm
          by_cases h92 : c = 92
          · have f3 : ((c.toNat : Int) == 92) = true := by rw [h92]; rfl
            have QE : Hid (LxM.qt m (s.data.toList.drop (k + 1)) = LxM.app acc (LxM.esc m (s.data.toList.drop (j + 1)))) := Lib.hid (by rw [HQ.out, QA.out, if_neg hcm, if_neg h10, if_pos h92])
            have f4 : ((c.toNat : Int) != 92) = false := by rw [h92]; rfl
            clear h10 hcm h92
            by_cases hl2 : j + 1 < s.size
            · have j2 : (j : Int) + 1 < (s.size : Int) := by omega
              have wj2 : wrap64 ((j : Int) + 1 + 1) = (j : Int) + 1 + 1 := by unfold wrap64; omega
              have wj3 : wrap64 ((j : Int) + 1 + 2) = (j : Int) + 1 + 2 := by unfold wrap64; omega
              have wj4 : wrap64 ((j : Int) + 1 + 2 + 1) = (j : Int) + 1 + 2 + 1 := by unfold wrap64; omega
              have EA := Lib.hid (esc_at s m (j + 1) hl2)
              obtain ⟨x, ex⟩ : ∃ x, s[j + 1] = x := ⟨_, rfl⟩
              rw [ex] at EA
              by_cases h1 : x = 110
              · have g1 : ((x.toNat : Int) == 110) = true := by rw [h1]; rfl
                have QN : Hid (LxM.qt m (s.data.toList.drop (k + 1)) = LxM.app (acc ++ [10]) (LxM.qt m (s.data.toList.drop (j + 1 + 1)))) := Lib.hid (by rw [QE.out, EA.out, if_pos h1, LxM.app_map])
                clear h1
                go_wp2_with (at_builtin; refine wpList_append_bytes rfl (.tmp 57) (.tmp 58) rfl w.heap.size _ _ _ rfl (OW.out _) (wr.heap.size + 1) (some ⟨wr.heap.size, 0, none⟩) 1 [10] rfl (fun e => nomatch e) (Bs.new _ _ _ _ _ rfl) (by have := LEN.out; simp only [List.length_cons, List.length_nil]; omega) (by have := LEN.out; simp only [List.length_cons, List.length_nil]; omega) (by have := HB.out.size; simp; omega) ?_; intro v2 w2 own2 g2 loc2)
                exact ⟨⟨j + 1 + 1, acc ++ [10], hl2, rfl, QN.out, QX0.out.pushed own2 g2 (by omega)⟩, by show s.size - ((j : Int) + 1 + 1).toNat < s.size - ((j : Int)).toNat; omega⟩
              · have g1 : ((x.toNat : Int) == 110) = false := ne_b 110 rfl h1
                by_cases h2 : x = 116
                · have g2 : ((x.toNat : Int) == 116) = true := by rw [h2]; rfl
                  have QN : Hid (LxM.qt m (s.data.toList.drop (k + 1)) = LxM.app (acc ++ [9]) (LxM.qt m (s.data.toList.drop (j + 1 + 1)))) := Lib.hid (by rw [QE.out, EA.out, if_neg h1, if_pos h2, LxM.app_map])
                  clear h1 h2
                  go_wp2_with (at_builtin; refine wpList_append_bytes rfl (.tmp 62) (.tmp 63) rfl w.heap.size _ _ _ rfl (OW.out _) (wr.heap.size + 1) (some ⟨wr.heap.size, 0, none⟩) 1 [9] rfl (fun e => nomatch e) (Bs.new _ _ _ _ _ rfl) (by have := LEN.out; simp only [List.length_cons, List.length_nil]; omega) (by have := LEN.out; simp only [List.length_cons, List.length_nil]; omega) (by have := HB.out.size; simp; omega) ?_; intro v2 w2 own2 g2 loc2)
                  exact ⟨⟨j + 1 + 1, acc ++ [9], hl2, rfl, QN.out, QX0.out.pushed own2 g2 (by omega)⟩, by show s.size - ((j : Int) + 1 + 1).toNat < s.size - ((j : Int)).toNat; omega⟩
                · have g2 : ((x.toNat : Int) == 116) = false := ne_b 116 rfl h2
                  by_cases h3 : x = 92 ∨ x = 34 ∨ x = 39
                  · have QN : Hid (LxM.qt m (s.data.toList.drop (k + 1)) = LxM.app (acc ++ [x]) (LxM.qt m (s.data.toList.drop (j + 1 + 1)))) := Lib.hid (by rw [QE.out, EA.out, if_neg h1, if_neg h2, if_pos h3, LxM.app_map])
                    have HG : ((x.toNat : Int) == 92) = true ∨ ((x.toNat : Int) == 92) = false ∧ ((x.toNat : Int) == 34) = true ∨ ((x.toNat : Int) == 92) = false ∧ ((x.toNat : Int) == 34) = false ∧ ((x.toNat : Int) == 39) = true := by
                      rcases h3 with rfl | rfl | rfl
                      · exact .inl rfl
                      · exact .inr (.inl ⟨rfl, rfl⟩)
                      · exact .inr (.inr ⟨rfl, rfl, rfl⟩)
                    have x256 := x.toNat_lt
                    clear h1 h2 h3
                    rcases HG with g3 | ⟨g3, g4⟩ | ⟨g3, g4, g5⟩
                    all_goals
                      go_wp2_with (at_builtin; refine wpList_append_bytes rfl (.tmp 69) (.tmp 73) rfl w.heap.size _ _ _ rfl (OW.out _) (wr.heap.size + 1) (some ⟨wr.heap.size, 0, none⟩) 1 [x] rfl (fun e => nomatch e) (Bs.new _ _ _ _ _ rfl) (by have := LEN.out; simp only [List.length_cons, List.length_nil]; omega) (by have := LEN.out; simp only [List.length_cons, List.length_nil]; omega) (by have := HB.out.size; simp; omega) ?_; intro v2 w2 own2 g2 loc2)
                      exact ⟨⟨j + 1 + 1, acc ++ [x], hl2, rfl, QN.out, QX0.out.pushed own2 g2 (by omega)⟩, by show s.size - ((j : Int) + 1 + 1).toNat < s.size - ((j : Int)).toNat; omega⟩
                  · have g3 : ((x.toNat : Int) == 92) = false := ne_b 92 rfl (fun e => h3 (.inl e))
                    have g4 : ((x.toNat : Int) == 34) = false := ne_b 34 rfl (fun e => h3 (.inr (.inl e)))
                    have g5 : ((x.toNat : Int) == 39) = false := ne_b 39 rfl (fun e => h3 (.inr (.inr e)))
                    by_cases h5 : x = 120
                    · have g6 : ((x.toNat : Int) == 120) = true := by rw [h5]; rfl
                      have QX := Lib.hid (show LxM.qt m (s.data.toList.drop (k + 1)) = LxM.app acc (LxM.hexq m (s.data.toList.drop (j + 1 + 1))) by rw [QE.out, EA.out, if_neg h1, if_neg h2, if_neg h3, if_pos h5])
                      clear h1 h2 h3 h5
                      by_cases hl4 : j + 1 + 2 < s.size
                      · have j4 : (j : Int) + 1 + 2 < (s.size : Int) := by omega
                        have HA := Lib.hid (hexq_at s m (j + 1 + 1) hl4)
                        obtain ⟨a, ea⟩ : ∃ a, s[j + 1 + 1] = a := ⟨_, rfl⟩
                        obtain ⟨b, eb⟩ : ∃ b, s[j + 1 + 2] = b := ⟨_, rfl⟩
                        rw [ea, show s[j + 1 + 1 + 1] = b from eb] at HA
                        have HXA := fun w => rhex_any a w
                        have HXB := fun w => rhex_any b w
                        have ra := hx_range a
                        have rb := hx_range b
                        obtain ⟨p, ep⟩ : ∃ p, LxM.hx (LxM.i a) = p := ⟨_, rfl⟩
                        obtain ⟨q, eq⟩ : ∃ q, LxM.hx (LxM.i b) = q := ⟨_, rfl⟩
                        rw [ep] at HXA HA ra
                        rw [eq] at HXB HA rb
                        clear ep eq
                        by_cases pa : p = -1
                        · have QN : Hid (LxM.qt m (s.data.toList.drop (k + 1)) = none) := Lib.hid (by rw [QX.out, HA.out, if_pos (.inl pa)]; rfl)
                          have p0 : p < 0 := by omega
                          clear ra rb pa
                          go_wp2_with (first | (go_at_call 36; with_reducible refine (HXA _).mono ?_; rintro e w' ⟨rfl, rfl⟩) | (go_at_call 36; with_reducible refine (HXB _).mono ?_; rintro e w' ⟨rfl, rfl⟩))
                          go_ret3
                          exact ⟨QT.bad QN.out _ _, HB.out⟩
                        · have p0 : 0 ≤ p := by omega
                          have p1 : p < 16 := by omega
                          by_cases qa : q = -1
                          · have QN : Hid (LxM.qt m (s.data.toList.drop (k + 1)) = none) := Lib.hid (by rw [QX.out, HA.out, if_pos (.inr qa)]; rfl)
                            have q0 : q < 0 := by omega
                            clear ra rb pa qa
                            go_wp2_with (first | (go_at_call 36; with_reducible refine (HXA _).mono ?_; rintro e w' ⟨rfl, rfl⟩) | (go_at_call 36; with_reducible refine (HXB _).mono ?_; rintro e w' ⟨rfl, rfl⟩))
                            go_ret3
                            exact ⟨QT.bad QN.out _ _, HB.out⟩
                          · have q0 : 0 ≤ q := by omega
                            have q1 : q < 16 := by omega
                            have QN : Hid (LxM.qt m (s.data.toList.drop (k + 1)) = LxM.app (acc ++ [UInt8.ofNat (p * 16 + q).toNat]) (LxM.qt m (s.data.toList.drop (j + 1 + 1 + 1 + 1)))) := Lib.hid (by rw [QX.out, HA.out, if_neg (by rintro (h | h) <;> contradiction), LxM.app_map])
                            clear ra rb pa qa
                            go_wp2_with (first | (go_at_call 36; with_reducible refine (HXA _).mono ?_; rintro e w' ⟨rfl, rfl⟩) | (go_at_call 36; with_reducible refine (HXB _).mono ?_; rintro e w' ⟨rfl, rfl⟩))
                            obtain ⟨j5, ej5⟩ : ∃ j5, j5 = j + 1 + 1 := ⟨_, rfl⟩
                            obtain ⟨j6, ej6⟩ : ∃ j6, j6 = j + 1 + 2 := ⟨_, rfl⟩
                            have hj5 : j5 < s.size := by omega
                            have hj6 : j6 < s.size := by omega
                            have ea5 : s[j5] = a := by subst ej5; exact ea
                            have eb6 : s[j6] = b := by subst ej6; exact eb
                            have iw5 : IntKind.i64.wrap ((j : Int) + 1 + 1) = (j5 : Int) := by rw [IntKind.wrap_i64]; omega
                            have iw6 : IntKind.i64.wrap ((j : Int) + 1 + 2) = (j6 : Int) := by rw [IntKind.wrap_i64]; omega
                            have i50 : 0 ≤ (j5 : Int) := by omega
                            have i60 : 0 ≤ (j6 : Int) := by omega
                            have i51 : (j5 : Int) < (s.size : Int) := by omega
                            have i61 : (j6 : Int) < (s.size : Int) := by omega
                            have e5 : ((j : Int) + 1 + 1).toNat = j5 := by omega
                            have e6 : ((j : Int) + 1 + 2).toNat = j6 := by omega
                            obtain ⟨c8, ec8⟩ : ∃ c8, c8 = UInt8.ofNat (p * 16 + q).toNat := ⟨_, rfl⟩
                            have pv : IntKind.u8.wrap (bits BinOp.or IntKind.i64 (IntKind.i64.wrap (p * 16)) q) = (c8.toNat : Int) := by rw [ec8]; exact hex_byte p q p0 p1 q0 q1
                            rw [← ec8] at QN
                            clear ec8
                            have CN : Hid ((wr.alloc (.cells #[Value.int IntKind.u8 (c8.toNat : Int)] 5)).drew.cell? ⟨wr.heap.size, 0, none⟩ = some (bv c8)) := World.cell?_alloc_new (w := wr) #[Value.int IntKind.u8 (c8.toNat : Int)] 5 0
                            have L5 : Hid (acc.length ≤ 100000) := (by have := LEN.out; omega : acc.length ≤ 100000)
                            have BS : Hid (w.heap.size ≤ (wr.alloc (.cells #[Value.int IntKind.u8 (c8.toNat : Int)] 5)).drew.heap.size) := Nat.le_trans HB.out.size (by show wr.heap.size ≤ (wr.heap.push _).size; simp)
                            go_region_law (first | (refine step_append_byte rfl (.tmp 98) (.tmp 112) rfl w.heap.size u8 acc ?_ ?_ wr.heap.size ?_ c8 ?_ ?_ ?_ ?_; rfl; exact OW.out _; rfl; exact CN.out; exact L5.out; exact BS.out; intro v2 w2 own2 g2) | (go_simp; first | (go_at_call 36; with_reducible refine (HXA _).mono ?_; rintro e w' ⟨rfl, rfl⟩) | (go_at_call 36; with_reducible refine (HXB _).mono ?_; rintro e w' ⟨rfl, rfl⟩)))
                            all_goals go_wp2_with fail
                            all_goals exact ⟨⟨j + 1 + 1 + 1 + 1, acc ++ [c8], hl4, by rw [show ((j : Int) + 1 + 2 + 1) = ((j + 1 + 1 + 1 + 1 : Nat) : Int) by omega], QN.out, QX0.out.pushedD own2 g2 (by omega)⟩, by show s.size - ((j : Int) + 1 + 2 + 1).toNat < s.size - ((j : Int)).toNat; omega⟩
                      · have j4 : (s.size : Int) ≤ (j : Int) + 1 + 2 := by omega
                        have QN : Hid (LxM.qt m (s.data.toList.drop (k + 1)) = none) := Lib.hid (by rw [QX.out, hexq_end s m _ (by omega)]; rfl)
                        go_wp2_with fail
                        go_ret3
                        exact ⟨QT.bad QN.out _ _, HB.out⟩
                    · have g6 : ((x.toNat : Int) == 120) = false := ne_b 120 rfl h5
                      have QN : Hid (LxM.qt m (s.data.toList.drop (k + 1)) = none) := Lib.hid (by rw [QE.out, EA.out, if_neg h1, if_neg h2, if_neg h3, if_neg h5]; rfl)
                      clear h1 h2 h3 h5
                      go_wp2_with fail
                      go_ret3
                      exact ⟨QT.bad QN.out _ _, HB.out⟩
            · have j2 : (s.size : Int) ≤ (j : Int) + 1 := by omega
              have QN : Hid (LxM.qt m (s.data.toList.drop (k + 1)) = none) := Lib.hid (by rw [QE.out, esc_end s m _ (by omega)]; rfl)
              go_wp2_with fail
              go_ret3
              exact ⟨QT.bad QN.out _ _, HB.out⟩
          · have f3 : ((c.toNat : Int) == 92) = false := ne_b 92 rfl h92
            have QN : Hid (LxM.qt m (s.data.toList.drop (k + 1)) = LxM.app (acc ++ [c]) (LxM.qt m (s.data.toList.drop (j + 1)))) := Lib.hid (by rw [HQ.out, QA.out, if_neg hcm, if_neg h10, if_neg h92, LxM.app_map])
            have c256 := c.toNat_lt
            clear h10 hcm h92
            go_wp2_with (at_builtin; refine wpList_append_bytes rfl (.tmp 42) (.tmp 44) rfl w.heap.size _ _ _ rfl (OW.out _) (wr.heap.size + 1) (some ⟨wr.heap.size, 0, none⟩) 1 [c] rfl (fun e => nomatch e) (Bs.new _ _ _ _ _ rfl) (by have := LEN.out; simp only [List.length_cons, List.length_nil]; omega) (by have := LEN.out; simp only [List.length_cons, List.length_nil]; omega) (by have := HB.out.size; simp; omega) ?_; intro v2 w2 own2 g2 loc2)
            exact ⟨⟨j + 1, acc ++ [c], hlt, rfl, QN.out, QX0.out.pushed own2 g2 (Nat.lt_succ_self _)⟩, by show s.size - ((j : Int) + 1).toNat < s.size - ((j : Int)).toNat; omega⟩
    · have QN : Hid (LxM.qt m (s.data.toList.drop (k + 1)) = none) := Lib.hid (by rw [HQ.out, drop_none s j (by omega), LxM.qt_nil]; rfl)
      have j1 : (s.size : Int) ≤ (j : Int) := by omega
      go_wp2_with fail
      go_ret3
      exact ⟨QT.bad QN.out _ _, HB.out⟩
end Go.Proofs.YtikbgkndfmcfhaaDoor
