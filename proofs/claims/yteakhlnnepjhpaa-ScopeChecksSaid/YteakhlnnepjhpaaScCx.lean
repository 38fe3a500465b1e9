/- Package scope: the stack: declare. -/
import Derived.Test.YteakhlnnepjhpaaScBx
namespace Go.Proofs.Yteakhlnnepjhpaa
open Go.RowKit
set_option linter.unusedVariables false
set_option linter.unusedSimpArgs false
/-- append of one item in a plain region. -/
theorem wpList_append_item {w : World} {ops : Array Oper} {rest : List Oper} {o : Oper} {a : Act} {Q : Exit → Act → World → Prop} (hgd : o.guard = none) (s x : Operand)
  (ho : o.op = .call { callee := .builtin .append, args := #[s, x], argTypes := #[56, 56] })
  (base : Nat) (v : Value) (S : List It) (hs : a.eval s = v) (hown : w.ownsRow base 99 4 v S.length (icells S))
  (b : Nat) (hx : a.eval x = .slice (some ⟨b, 0, none⟩) 1 1) (t : It) (hu : Blk w b (ics t) 99) (hlen : S.length ≤ 1000000000000) (hb : base ≤ w.heap.size)
  (h : ∀ v' w', w'.ownsRow base 99 4 v' (S.length + 1) (icells (S ++ [t])) → w.grownBy w' v.ownBlock → wpList Try.prog ops Q rest (a.put o.dst v') w') :
  wpList Try.prog ops Q (o :: rest) a w := by
 obtain ⟨i, hi, hz, k1, k2⟩ := info_parts infoI
 refine wpList_append_own_at w hgd s x 56 ho base 99 i _ 4 40 Try.underlying56 hi hz k1 k2 rfl (by decide) v S.length (icells S) hs hown ⟨b, 0, none⟩ 1 1 (ics t).toList hx rfl (fun j y hj => ?_) (ics_one t) (by unfold maxLen; omega) (by omega) hb fun v' w' g1 g2 _ _ => h v' w' (by rw [icells_append]; simpa [icells] using g1) g2
 have e : (⟨b, 0, none⟩ : Addr).add j = ⟨b, j, none⟩ := by unfold Addr.add; split <;> simp_all
 rw [e]
 have h5 : w.heap[b]? = _ := hu
 simp only [World.cell?, h5]
 simpa using hj
theorem declare_snoc (l : List ByteArray) (s : ByteArray) (st : ScM.Sc) : ScM.declare (l ++ [s]) st = ScM.declare [s] (ScM.declare l st) := by
 unfold ScM.declare
 simp [Nat.add_assoc]
/-- Names that may be laid down: in blocks below the walker's, or of texts. -/
def Nms (w : World) (B : Nat) (v : Value) (l : List ByteArray) : Prop := ∃ P, Strs w P v l ∧ ∀ k, P k → k < w.heap.size → k < B ∨ ∃ cs, Blk w k cs 9
theorem Nms.kp {w w' : World} {B : Nat} {v : Value} {l : List ByteArray} (h : Nms w B v l) (k : Kp B false w w') : Nms w' B v l := by
 obtain ⟨P, h1, h2⟩ := h
 refine ⟨fun q => P q ∧ q < w.heap.size, h1.move ⟨k.bel.size, fun p hp hl => ?_, fun q hq hl => ⟨hq, hl⟩⟩, fun q hq hl => ?_⟩
 ·rcases h2 p.block hp hl with x | ⟨cs, x⟩
  ·exact World.cell?_of_block (k.bel.block _ x)
  ·have y : w'.heap[p.block]? = _ := k.blk _ _ _ x (by decide) (by decide) (fun e => nomatch e)
   have x : w.heap[p.block]? = _ := x
   exact World.cell?_of_block (y.trans x.symm)
 ·rcases h2 q hq.1 hq.2 with x | ⟨cs, x⟩
  ·exact .inl x
  ·exact .inr ⟨cs, k.blk _ _ _ x (by decide) (by decide) (fun e => nomatch e)⟩
theorem Nms.at {w : World} {B n c i : Nat} {A : Option Addr} {l : List ByteArray} (h : Nms w B (.slice A n c) l) (hi : i < l.length) : ∃ p : Addr, A = some p ∧ w.cell? (p.add i) = some (.string l[i]) := by
 obtain ⟨P, ⟨A', c', e, -, -, hr⟩, -⟩ := h
 injection e with e1 e2 e3
 subst e1
 obtain ⟨p, e, -, -, hc⟩ := hr i hi
 exact ⟨p, e, hc⟩
theorem Nms.slice {w : World} {B : Nat} {v : Value} {l : List ByteArray} (h : Nms w B v l) : ∃ A c, v = .slice A l.length c := by
 obtain ⟨P, ⟨A', c', e, -⟩, -⟩ := h
 exact ⟨A', c', e⟩
set_option maxRecDepth 20000 in
set_option maxHeartbeats 4000000 in
/-- declare. -/
theorem declare_s {w : World} {B g : Nat} {S : List It} {st : ScM.Sc} {v : Value} {l : List ByteArray} (h : WK w B g S st) (hn : Nms w B v l) (hsz : ∀ p ∈ l, p.size ≤ maxLen) (hm : st.ct + l.length ≤ 1000000000000) :
  Calls Try.prog 40 #[.pointer (some ⟨g, 0, none⟩), v] w fun e w' => e = .returned (.tuple #[]) ∧ WK w' B g (S ++ l.map nm) (ScM.declare l st) ∧ Kp B false w w' := by
 obtain ⟨A, c, rfl⟩ := hn.slice
 obtain ⟨n, hln⟩ : ∃ n, l.length = n := ⟨_, rfl⟩
 rw [hln] at hn hm ⊢
 have HN := Lib.hid hn
 have HL := Lib.hid hln
 have HS := Lib.hid hsz
 have HM := Lib.hid hm
 have H0 := Lib.hid h
 have n0 : (0 : Int) ≤ (n : Int) := by omega
 have n1 : (n : Int) ≤ 1000000000000 := by omega
 clear h hn hsz hln hm
 go_enter Try.func40, Try.ntmps40
 go_wp2_with fail
 go_loopw [5, 8] (fun u5 u8 wr => ∃ (i : Nat) (v : Value), u5 = v ∧ u8 = .int .i64 (i : Int) ∧ i ≤ n ∧ WK wr B g (S ++ (l.take i).map nm) (ScM.declare (l.take i) st) ∧ Kp B false w wr) (fun _ u8 _ => (n : Int).toNat - (intOf u8).toNat)
 case atStart => exact ⟨0, undef, rfl, rfl, Nat.zero_le _, by rw [List.take_zero]; simpa [ScM.declare] using H0.out, Kp.refl _ _ _⟩
 case round =>
  obtain ⟨i, v, rfl, rfl, hi, ⟨vi, vo, mb, ob, hk⟩, hkp⟩ := hrel
  have HK := Lib.hid hkp
  have i0 : (0 : Int) ≤ (i : Int) := by omega
  have wi : wrap64 ((i : Int) + 1) = (i : Int) + 1 := by unfold wrap64; omega
  by_cases hlt : i < n
  ·have hl : i < l.length := by rw [HL.out]; exact hlt
   obtain ⟨p, rfl, pc⟩ := Nms.at (HN.out.kp HK.out) hl
   obtain ⟨s, hs⟩ : ∃ s, l[i] = s := ⟨_, rfl⟩
   rw [hs] at pc
   have SZ := Lib.hid (show s.size ≤ maxLen by rw [← hs]; exact HS.out _ (List.getElem_mem hl))
   have TK := Lib.hid (show l.take (i + 1) = l.take i ++ [s] by rw [List.take_add_one, List.getElem?_eq_getElem hl, hs]; rfl)
   obtain ⟨S1, hS1⟩ : ∃ S1, S ++ (l.take i).map nm = S1 := ⟨_, rfl⟩
   obtain ⟨st1, hst1⟩ : ∃ st1, ScM.declare (l.take i) st = st1 := ⟨_, rfl⟩
   rw [hS1, hst1] at hk
   have E1 := Lib.hid hS1
   have E2 := Lib.hid hst1
   have CT := Lib.hid (show st1.ct + 1 ≤ 1000000000000 by rw [← hst1]; simp only [ScM.declare, List.length_take]; have := HM.out; omega)
   have LT := Lib.hid hlt
   have hl1 : (i : Int) < (n : Int) := by omega
   have H := Lib.hid hk
   have LE := Lib.hid (show S1.length ≤ 1000000000000 from Nat.le_trans hk.len hk.max)
   have AL := Lib.hid ((Below.refl wr.heap.size wr).alloc (Nat.le_refl _) (.cells (ics (nm s)) 99))
   obtain ⟨⟨c0, c1, c2, c3, c4, c5, c6, c7⟩, f0, f1, f2, f3, f4, f5, f6, f7⟩ := hk.blk.eight
   obtain ⟨q, hq⟩ : ∃ q, cntB st1.names s.data.toList = q := ⟨_, rfl⟩
   have HQ := Lib.hid hq
   have q1 : (q : Int) ≤ 1000000000000 := by have := cntB_le st1.names s.data.toList; have := vis_le S1; have := hk.names; have := LE.out; rw [← hk.names] at *; omega
   have wq : wrap64 ((q : Int) + 1) = (q : Int) + 1 := by unfold wrap64; omega
   have wo : wrap64 ((st1.own : Int) + 1) = (st1.own : Int) + 1 := by have := hk.own; have := hk.max; unfold wrap64; omega
   have EQ := Lib.hid (fun t : List UInt8 => show cntB (vis (S1 ++ [nm s])) t = if s.data.toList = t then q + 1 else cntB (vis S1) t by
    rw [vis_append, show vis [nm s] = [s] from rfl, cntB_append, cntB_one]
    split
    ·rename_i e; rw [← e, hk.names, hq]
    ·rfl)
   clear hk hkp hi hlt hl hs hS1 hst1 hq q1
   go_wp2_with (refine wpList_append_item rfl (.tmp 16) (.tmp 19) rfl B vi S1 ?_ ?_ wr.heap.size ?_ (nm s) ?_ ?_ ?_ ?_; rfl; exact own_same H.out.items (fun q e => AL.out.block q (own_lt H.out.items q e).2); rfl; exact Blk.new wr _ _; exact LE.out; exact Nat.le_trans H.out.base AL.out.size; intro v9 w9 own9 g9; obtain ⟨A9, c9, rfl⟩ := own_shape own9; have OW := Lib.hid own9; have G9 := Lib.hid g9; have K9 := Lib.hid (H.out.blk2 AL.out g9); clear own9 g9; have OG := Lib.hid ((Only.refl (fun b => b = g) w9).setCell (p := ⟨g, 0, none⟩) (.inl rfl) (.slice A9 (S1.length + 1) c9)); have C3 := H.out.cnt2 AL.out G9.out OG.out; have L3 := C3.look s SZ.out; rw [H.out.names, HQ.out] at L3; obtain ⟨w4, r4, k4, g4⟩ := C3.store (l' := vis (S1 ++ [nm s])) s SZ.out (by have := H.out.max; unfold maxLen; omega) (q + 1) EQ.out; rw [show ((q + 1 : Nat) : Int) = (q : Int) + 1 from rfl] at r4; have B4 := Lib.hid ((blkW0 K9.out (.slice A9 (S1.length + 1) c9)).grown g4 (fun e => map_blk H.out.cnt H.out.blk (Option.some.inj e))); have G4 := Lib.hid g4; have K4 := Lib.hid k4; clear C3 g4 k4; obtain ⟨⟨d0, d1, d2, d3, d4, d5, d6, d7⟩, e0, e1, e2, e3, e4, e5, e6, e7⟩ := K9.out.eight; obtain ⟨⟨x0, x1, x2, x3, x4, x5, x6, x7⟩, y0, y1, y2, y3, y4, y5, y6, y7⟩ := B4.out.eight)
   refine ⟨⟨i + 1, _, rfl, ?_, ?_, ?_⟩, ?_⟩
   ·first | rfl | exact congrArg (Value.int .i64) (wi.trans (by omega))
   ·exact LT.out
   ·have o4 : Only (fun b => b = g ∨ b = mb) w9 w4 := (OG.out.or (G := fun b => b = mb)).trans (G := fun b => b = mb) ⟨G4.out.os, G4.out.tape, G4.out.output, G4.out.size, fun k hk hne => G4.out.block k hk (fun e => hne (Option.some.inj e))⟩ (fun k e => .inl (.inr e))
    have o5 := o4.setCell (p := ⟨g, 2, none⟩) (.inl (.inl rfl)) (.int .i64 ((st1.own : Int) + 1))
    have r := H.out.grow (st' := ScM.declare [s] st1) (a := nm s) AL.out OW.out G9.out o5 (blkW2 B4.out _) (K4.out.same (Below.heap_setCell _ _ _ mb (map_blk H.out.cnt H.out.blk))) (by rw [vis_append, H.out.names]; rfl) (fun x hx => by rcases List.mem_append.1 hx with y | y; exact H.out.short x y; simp at y; rw [y]; exact SZ.out) rfl (Nat.le_refl _) (Nat.succ_le_succ H.out.own) (Nat.le_succ_of_le H.out.loops) CT.out
    rw [TK.out, List.map_append, ← List.append_assoc, E1.out, declare_snoc, E2.out]
    exact ⟨⟨_, _, _, _, r.1⟩, HK.out.trans r.2⟩
   ·have := LT.out
    simp only [intOf]
    omega
  ·have hl1 : ¬ (i : Int) < (n : Int) := by omega
   have TK := Lib.hid (show l.take i = l from List.take_of_length_le (by rw [HL.out]; omega))
   have HW : Hid (WK wr B g (S ++ (l.take i).map nm) (ScM.declare (l.take i) st)) := Lib.hid ⟨_, _, _, _, hk⟩
   clear hk hkp hi hlt
   go_wp2_with fail
   go_end0
   have k := HW.out
   rw [TK.out] at k
   exact ⟨rfl, k, HK.out⟩
end Go.Proofs.Yteakhlnnepjhpaa
