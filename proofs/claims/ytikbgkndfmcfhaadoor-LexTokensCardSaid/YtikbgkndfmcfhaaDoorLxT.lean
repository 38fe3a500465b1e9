/- Package lex: the text between marks (printed by genlxt.py). -/
import Derived.Test.YtikbgkndfmcfhaaDoorLxN
import Derived.Test.YtikbgkndfmcfhaaDoorScopes
import Derived.Test.YtikbgkndfmcfhaaDoorBytes
namespace Go.Proofs.YtikbgkndfmcfhaaDoor
open Go.RowKit
set_option linter.unusedVariables false
namespace LxM
def hexq (m : UInt8) (l : List UInt8) : Option (List UInt8 × List UInt8) :=
  match l with
  | a :: b :: r2 => if hx (i a) = -1 ∨ hx (i b) = -1 then none else (qt m r2).map fun x => (UInt8.ofNat (hx (i a) * 16 + hx (i b)).toNat :: x.1, x.2)
  | _ => none
def esc (m : UInt8) (r : List UInt8) : Option (List UInt8 × List UInt8) :=
  match r with
  | [] => none
  | e :: r1 =>
    if e = 110 then (qt m r1).map fun x => (10 :: x.1, x.2)
    else if e = 116 then (qt m r1).map fun x => (9 :: x.1, x.2)
    else if e = 92 ∨ e = 34 ∨ e = 39 then (qt m r1).map fun x => (e :: x.1, x.2)
    else if e = 120 then hexq m r1
    else none
theorem qt_nil (m : UInt8) : qt m [] = none := by rw [qt.eq_def]
theorem qt_cons (m c : UInt8) (r : List UInt8) : qt m (c :: r) = if c = m then some ([], r) else if c = 10 then none else if c = 92 then esc m r else (qt m r).map fun x => (c :: x.1, x.2) := by rw [qt.eq_def]; rfl
def app (acc : List UInt8) (x : Option (List UInt8 × List UInt8)) : Option (List UInt8 × List UInt8) := x.map fun y => (acc ++ y.1, y.2)
theorem app_nil (x : Option (List UInt8 × List UInt8)) : app [] x = x := by cases x <;> rfl
theorem app_map (acc : List UInt8) (c : UInt8) (x : Option (List UInt8 × List UInt8)) : app acc (x.map fun y => (c :: y.1, y.2)) = app (acc ++ [c]) x := by cases x <;> simp [app]
end LxM
/-- What holds of memory while a text is read. -/
structure TX (W0 : World) (g f : Nat) (s : ByteArray) (tv : Value) (rb k0 k : Nat) (acc : List UInt8) (dv : Value) (W : World) : Prop where
  rd : Rb W g s f k tv
  res : Blk W rb #[.int .i64 0, .string ⟨#[]⟩, .int .i64 0, .int .i64 0] 31
  own : W.ownsRow (rb + 1) 5 1 dv acc.length (acc.map bv)
  gr : W0.grownBy W (some g)
  hrb : W0.heap.size ≤ rb
  hg : g < W0.heap.size
  hk : k ≤ s.size
  h0 : k0 ≤ k
  len : acc.length ≤ k
theorem own_grown {W W' : World} {base : Nat} {e : TypeId} {z n : Nat} {v : Value} {xs : List Value} {g : Nat} (h : W.ownsRow base e z v n xs) (hg : W.grownBy W' (some g)) (hb : g < base) : W'.ownsRow base e z v n xs := by
  refine ⟨h.1, ?_⟩
  rcases h.2 with ⟨rfl, h0⟩ | ⟨p, cap, cur, rfl, hp, hbk, hc, h4, hs, ht⟩
  · exact .inl ⟨rfl, h0⟩
  · exact .inr ⟨p, cap, cur, rfl, hp, (hg.block p (Array.getElem?_eq_some_iff.1 hbk).1 (fun e => by have := Option.some.inj e; omega)).trans hbk, hc, h4, hs, ht⟩
theorem TX.step {W0 W W' : World} {g f : Nat} {s : ByteArray} {tv : Value} {rb k0 k k' : Nat} {acc : List UInt8} {dv : Value} (h : TX W0 g f s tv rb k0 k acc dv W) (hr : Rb W' g s f k' tv) (hg : W.grownBy W' (some g)) (h1 : k ≤ k') (h2 : k' ≤ s.size) : TX W0 g f s tv rb k0 k' acc dv W' :=
  ⟨hr, h.res.grown hg (by have := h.hrb; have := h.hg; intro e; have := Option.some.inj e; omega), own_grown h.own hg (by have := h.hrb; have := h.hg; omega), h.gr.trans hg, h.hrb, h.hg, h2, Nat.le_trans h.h0 h1, Nat.le_trans h.len h1⟩
theorem TX.took {W0 W W' : World} {g f : Nat} {s : ByteArray} {tv : Value} {rb k0 k : Nat} {acc : List UInt8} {dv : Value} (h : TX W0 g f s tv rb k0 k acc dv W) (hr : Rb W' g s f (if k < s.size then k + 1 else k) tv) (hg : W.grownBy W' (some g)) : TX W0 g f s tv rb k0 (if k < s.size then k + 1 else k) acc dv W' :=
  h.step hr hg (by split <;> omega) (by have := h.hk; split <;> omega)
theorem TX.appended {W0 w w2 : World} {g f : Nat} {s : ByteArray} {tv : Value} {rb k0 k : Nat} {acc : List UInt8} {c : UInt8} {dv v2 : Value} {o : Obj} (h : TX W0 g f s tv rb k0 k acc dv w)
    (own2 : w2.ownsRow (rb + 1) 5 1 v2 (acc.length + [c].length) (acc.map bv ++ [c].map bv)) (g2 : (w.alloc o).grownBy w2 dv.ownBlock) (hc : acc.length + 1 ≤ k) : TX W0 g f s tv rb k0 k (acc ++ [c]) v2 w2 := by
  have b1 : Below w.heap.size w (w.alloc o) := (Below.refl _ w).alloc (Nat.le_refl _) o
  have far : ∀ i, i ≤ rb → dv.ownBlock ≠ some i := fun i hi e => by have := (h.own.lt i e).1; omega
  have bl : ∀ i, i ≤ rb → i < w.heap.size → w2.heap[i]? = w.heap[i]? := fun i hi hl => (g2.block i (Nat.lt_of_lt_of_le hl b1.size) (fun e => far i hi e.symm)).trans (b1.block i hl)
  have hrb := h.hrb
  have hg := h.hg
  refine ⟨(bl g (by omega) h.rd.lt).trans h.rd, (bl rb (Nat.le_refl _) h.res.lt).trans h.res, ?_, ⟨g2.os.trans (b1.os.trans h.gr.os), g2.tape.trans (b1.tape.trans h.gr.tape), g2.output.trans (b1.output.trans h.gr.output), Nat.le_trans h.gr.size (Nat.le_trans b1.size g2.size), fun i hi hne => ?_⟩, hrb, hg, h.hk, h.h0, by rw [List.length_append]; exact hc⟩
  · rw [List.map_append, List.length_append]; exact own2
  · exact (bl i (by omega) (Nat.lt_of_lt_of_le hi h.gr.size)).trans (h.gr.block i hi hne)
theorem row_any {W0 w : World} {g f : Nat} {s : ByteArray} {tv : Value} {rb k0 k : Nat} {acc : List UInt8} {dv : Value} (h : TX W0 g f s tv rb k0 k acc dv w) : ∀ o, (w.alloc o).ownsRow (rb + 1) 5 1 dv acc.length (acc.map bv) := fun o => World.ownsRow.alloc h.own o
def kOf (g : Nat) (w : World) : Nat := match w.cell? ⟨g, 2, none⟩ with | some v => (intOf v).toNat | none => 0
theorem Rb.kof {W : World} {g : Nat} {s : ByteArray} {f k : Nat} {tv : Value} (h : Rb W g s f k tv) : kOf g W = k := by
  unfold kOf
  rw [h.four.2.2.1]
  simp [intOf]
def FrT (g : Nat) (m : UInt8) (rb : Nat) (b hi lo dv : Value) (a : Act) : Prop := ∃ u10 u11 u12 u13 u14 u15 u16 u17 u18 u19 u20 u21 u22 u23 u24 u25 u26 u27 u28 u29 u30 u31 u32 u33 u34 u35 u36 u37 u38 u39 u40 u41 u42 u43 u44 u45 u46 u47 u48 u49 u50 u51 u52 u53 u54 u55 u56 u57 u58 u59 u60 u61 : Value, a = { tmps := #[.pointer (some ⟨g, 0, none⟩), .int .i64 (m.toNat : Int), undef, undef, .pointer (some ⟨rb, 0, none⟩), .bool false, b, hi, lo, dv, u10, u11, u12, u13, u14, u15, u16, u17, u18, u19, u20, u21, u22, u23, u24, u25, u26, u27, u28, u29, u30, u31, u32, u33, u34, u35, u36, u37, u38, u39, u40, u41, u42, u43, u44, u45, u46, u47, u48, u49, u50, u51, u52, u53, u54, u55, u56, u57, u58, u59, u60, u61], defers := [] }
theorem FrT.mk {g : Nat} {m : UInt8} {rb : Nat} {b hi lo dv u10 u11 u12 u13 u14 u15 u16 u17 u18 u19 u20 u21 u22 u23 u24 u25 u26 u27 u28 u29 u30 u31 u32 u33 u34 u35 u36 u37 u38 u39 u40 u41 u42 u43 u44 u45 u46 u47 u48 u49 u50 u51 u52 u53 u54 u55 u56 u57 u58 u59 u60 u61 : Value} : FrT g m rb b hi lo dv { tmps := #[.pointer (some ⟨g, 0, none⟩), .int .i64 (m.toNat : Int), undef, undef, .pointer (some ⟨rb, 0, none⟩), .bool false, b, hi, lo, dv, u10, u11, u12, u13, u14, u15, u16, u17, u18, u19, u20, u21, u22, u23, u24, u25, u26, u27, u28, u29, u30, u31, u32, u33, u34, u35, u36, u37, u38, u39, u40, u41, u42, u43, u44, u45, u46, u47, u48, u49, u50, u51, u52, u53, u54, u55, u56, u57, u58, u59, u60, u61], defers := [] } := ⟨u10, u11, u12, u13, u14, u15, u16, u17, u18, u19, u20, u21, u22, u23, u24, u25, u26, u27, u28, u29, u30, u31, u32, u33, u34, u35, u36, u37, u38, u39, u40, u41, u42, u43, u44, u45, u46, u47, u48, u49, u50, u51, u52, u53, u54, u55, u56, u57, u58, u59, u60, u61, rfl⟩
/-- The code of the body, its scope taken off. -/
noncomputable def codeT : Code := scopeIn Tryd.f34
/-- What stands behind the label 0. -/
noncomputable def restT : Option Code := match codeT with | .seq _ (.seq _ (.seq _ c)) => some c | _ => none
def rankT : Nat → Nat
  | 0 => 1
  | 2 => 3
  | 4 => 2
  | 5 => 3
  | _ => 0
def mT (g : Nat) (s : ByteArray) (l : Nat) (_ : Act) (w : World) : Nat := 8 * (s.size - kOf g w) + rankT l
def Fin (m : UInt8) (L0 L : List UInt8) (acc : List UInt8) (b : Value) (k : Nat) : Nat → Prop
  | 0 => LxM.qt m L0 = LxM.app acc (LxM.qt m L)
  | 1 => LxM.qt m L0 = some (acc, L)
  | 2 => LxM.qt m L0 = LxM.app acc (LxM.esc m L)
  | 3 => LxM.qt m L0 = none
  | 4 => ∃ c : UInt8, b = .int .i64 (c.toNat : Int) ∧ acc.length + 1 ≤ k ∧ LxM.qt m L0 = LxM.app (acc ++ [c]) (LxM.qt m L)
  | 5 => LxM.qt m L0 = LxM.app acc (LxM.hexq m L)
  | _ => False
def JT (W0 : World) (g f : Nat) (s : ByteArray) (tv : Value) (rb k0 : Nat) (m : UInt8) (l : Nat) (a : Act) (W : World) : Prop :=
  ∃ b hi lo dv k acc, FrT g m rb b hi lo dv a ∧ TX W0 g f s tv rb k0 k acc dv W ∧ Fin m (s.data.toList.drop k0) (s.data.toList.drop k) acc b k l
/-- The function's end. -/
def PT (W0 : World) (g f : Nat) (s : ByteArray) (tv : Value) (k0 : Nat) (m : UInt8) (e : Ending) (W' : World) : Prop :=
  ∃ t ok k', e = .returned (.tuple #[tval t, .bool ok]) ∧ t.at_ = 0 ∧ Rb W' g s f k' tv ∧ W0.grownBy W' (some g) ∧ k' ≤ s.size ∧ k0 ≤ k' ∧ Got (LxM.tkQ m (s.data.toList.drop k0)) s t ok k'
abbrev passT (W0 : World) (g f : Nat) (s : ByteArray) (tv : Value) (rb k0 : Nat) (m : UInt8) (l : Nat) (a : Act) (w : World) : Exit → Act → World → Prop :=
  Exit.jumps (fun l' a' w' => JT W0 g f s tv rb k0 m l' a' w' ∧ mT g s l' a' w' < mT g s l a w) (bodyPost Tryd.prog Tryd.f34 (PT W0 g f s tv k0 m))
theorem goes {W0 : World} {g f : Nat} {s : ByteArray} {tv : Value} {rb k0 : Nat} {m : UInt8} {l l' k1 k2 : Nat} {a a' : Act} {w w' : World} {b hi lo dv : Value} {acc : List UInt8} (hf : FrT g m rb b hi lo dv a') (h : TX W0 g f s tv rb k0 k2 acc dv w') (hF : Fin m (s.data.toList.drop k0) (s.data.toList.drop k2) acc b k2 l') (h1 : kOf g w = k1) (hm : 8 * (s.size - k2) + rankT l' < 8 * (s.size - k1) + rankT l) :
    JT W0 g f s tv rb k0 m l' a' w' ∧ mT g s l' a' w' < mT g s l a w :=
  ⟨⟨b, hi, lo, dv, k2, acc, hf, h, hF⟩, by unfold mT; rw [h1, h.rd.kof]; exact hm⟩
section
variable {W0 : World} {g f : Nat} {s : ByteArray} {tv : Value} {rb k0 : Nat} {m : UInt8}
set_option maxRecDepth 20000 in
set_option maxHeartbeats 2000000 in
theorem t_pass4 (hs : s.size ≤ 16384) (a : Act) (w : World) (h : JT W0 g f s tv rb k0 m 4 a w) : ∃ rest, findLabel codeT 4 = some rest ∧ rest.wp Tryd.prog (passT W0 g f s tv rb k0 m 4 a w) a w := by
  refine ⟨_, rfl, ?_⟩
  obtain ⟨b, hi, lo, dv, k, acc, ⟨u10, u11, u12, u13, u14, u15, u16, u17, u18, u19, u20, u21, u22, u23, u24, u25, u26, u27, u28, u29, u30, u31, u32, u33, u34, u35, u36, u37, u38, u39, u40, u41, u42, u43, u44, u45, u46, u47, u48, u49, u50, u51, u52, u53, u54, u55, u56, u57, u58, u59, u60, u61, rfl⟩, tx, c, rfl, hc, hF⟩ := h
  have TXX := Lib.hid tx
  have HF := Lib.hid hF
  have HC := Lib.hid hc
  have KO := Lib.hid tx.rd.kof
  have hcu : IntKind.u8.wrap (c.toNat : Int) = (c.toNat : Int) := by have := c.toNat_lt; rw [IntKind.wrap_u8]; omega
  have o2 : ∀ o, (w.alloc o).ownsRow (rb + 1) 5 1 dv acc.length (acc.map bv) := fun o => World.ownsRow.alloc tx.own o
  clear tx hF hc
  refine wp_seq (wp_skip ?_)
  go_wp2_with (at_builtin; refine wpList_append_bytes rfl (.tmp 21) (.tmp 24) rfl (rb + 1) _ _ _ rfl (o2 _) (w.heap.size + 1) (some ⟨w.heap.size, 0, none⟩) 1 [c] rfl (fun e => nomatch e) (Bs.new _ _ _ _ _ rfl) (by have := TXX.out.len; have := TXX.out.hk; simp only [List.length_cons, List.length_nil]; omega) (by have := TXX.out.len; have := TXX.out.hk; simp only [List.length_cons, List.length_nil]; omega) (by have := TXX.out.res.lt; simp; omega) ?_; intro v2 w2 own2 g2 loc2)
  go_step3
  exact goes FrT.mk (TXX.out.appended own2 g2 HC.out) HF.out KO.out (by show _ + 1 < _ + 2; omega)
set_option maxRecDepth 20000 in
set_option maxHeartbeats 2000000 in
theorem t_pass0 (hs : s.size ≤ 16384) (hm : m = 34 ∨ m = 39) (a : Act) (w : World) (h : JT W0 g f s tv rb k0 m 0 a w) : ∃ rest, restT = some rest ∧ findLabel codeT 0 = some (.seq .skip rest) ∧ rest.wp Tryd.prog (passT W0 g f s tv rb k0 m 0 a w) a w := by
  refine ⟨_, rfl, rfl, ?_⟩
  obtain ⟨b, hi, lo, dv, k, acc, ⟨u10, u11, u12, u13, u14, u15, u16, u17, u18, u19, u20, u21, u22, u23, u24, u25, u26, u27, u28, u29, u30, u31, u32, u33, u34, u35, u36, u37, u38, u39, u40, u41, u42, u43, u44, u45, u46, u47, u48, u49, u50, u51, u52, u53, u54, u55, u56, u57, u58, u59, u60, u61, rfl⟩, tx, hF⟩ := h
  have TXX := Lib.hid tx
  have HF := Lib.hid (show LxM.qt m (s.data.toList.drop k0) = LxM.app acc (LxM.qt m (s.data.toList.drop k)) from hF)
  have KO := Lib.hid tx.rd.kof
  have TK := Lib.hid (take_any w g s f k tv tx.rd tx.hk hs)
  clear tx hF
  by_cases hlt : k < s.size
  · have HD := Lib.hid (drop_cons s k hlt)
    rw [if_pos hlt, pk_in s k hlt] at TK
    obtain ⟨c, hc⟩ : ∃ c, s[k] = c := ⟨_, rfl⟩
    rw [hc] at TK HD
    have HL := Lib.hid hlt
    clear hc hlt
    by_cases h1 : c = m
    · have n1 : ((c.toNat : Int) == (m.toNat : Int)) = true := by rw [h1]; exact beq_self_eq_true _
      have HN1 := Lib.hid h1
      clear h1
      go_wp2_with (go_at_call 27; refine TK.out.mono ?_; rintro e W1 ⟨rfl, rd1, gr1⟩; have TX1 := Lib.hid (TXX.out.step rd1 gr1 (Nat.le_succ _) HL.out); have GR1 := Lib.hid gr1; have o2 := row_any TX1.out; clear rd1 gr1)
      go_step3
      exact goes FrT.mk TX1.out (by show LxM.qt _ _ = _; rw [HF.out, HD.out, LxM.qt_cons, if_pos HN1.out]; simp [LxM.app]) KO.out (by have := HL.out; show _ + 0 < _ + 1; omega)
    · have n1 : ((c.toNat : Int) == (m.toNat : Int)) = false := by rw [beq_eq_false_iff_ne]; intro e; exact h1 (UInt8.toNat_inj.1 (by omega))
      have HN1 := Lib.hid h1
      clear h1
      by_cases h2 : c = 92
      · have n2 : ((c.toNat : Int) == 92) = true := by rw [h2]; rfl
        have HN2 := Lib.hid h2
        clear h2
        go_wp2_with (go_at_call 27; refine TK.out.mono ?_; rintro e W1 ⟨rfl, rd1, gr1⟩; have TX1 := Lib.hid (TXX.out.step rd1 gr1 (Nat.le_succ _) HL.out); have GR1 := Lib.hid gr1; have o2 := row_any TX1.out; clear rd1 gr1)
        go_step3
        exact goes FrT.mk TX1.out (by show LxM.qt _ _ = _; rw [HF.out, HD.out, LxM.qt_cons, if_neg HN1.out, if_neg (by rw [HN2.out]; decide), if_pos HN2.out]) KO.out (by have := HL.out; show _ + 3 < _ + 1; omega)
      · have n2 : ((c.toNat : Int) == 92) = false := by rw [beq_eq_false_iff_ne]; intro e; exact h2 (UInt8.toNat_inj.1 (by have : (92 : UInt8).toNat = 92 := rfl; omega))
        have HN2 := Lib.hid h2
        clear h2
        by_cases h3 : c = 10
        · have n3 : ((c.toNat : Int) == 10) = true := by rw [h3]; rfl
          have HN3 := Lib.hid h3
          clear h3
          go_wp2_with (go_at_call 27; refine TK.out.mono ?_; rintro e W1 ⟨rfl, rd1, gr1⟩; have TX1 := Lib.hid (TXX.out.step rd1 gr1 (Nat.le_succ _) HL.out); have GR1 := Lib.hid gr1; have o2 := row_any TX1.out; clear rd1 gr1)
          go_step3
          exact goes FrT.mk TX1.out (by show LxM.qt _ _ = _; rw [HF.out, HD.out, LxM.qt_cons, if_neg HN1.out, if_pos HN3.out]; rfl) KO.out (by have := HL.out; show _ + 0 < _ + 1; omega)
        · have n3 : ((c.toNat : Int) == 10) = false := by rw [beq_eq_false_iff_ne]; intro e; exact h3 (UInt8.toNat_inj.1 (by have : (10 : UInt8).toNat = 10 := rfl; omega))
          have n4 : ((c.toNat : Int) == -1) = false := by rw [beq_eq_false_iff_ne]; intro e; omega
          have hcu : IntKind.u8.wrap (c.toNat : Int) = (c.toNat : Int) := by have := c.toNat_lt; rw [IntKind.wrap_u8]; omega
          have HN3 := Lib.hid h3
          clear h3
          go_wp2_with (go_at_call 27; refine TK.out.mono ?_; rintro e W1 ⟨rfl, rd1, gr1⟩; have TX1 := Lib.hid (TXX.out.step rd1 gr1 (Nat.le_succ _) HL.out); have GR1 := Lib.hid gr1; have o2 := row_any TX1.out; clear rd1 gr1)
          go_step3
          rename_i hK
          refine hK _ _ ?_
          clear hK
          go_wp2_with (at_builtin; refine wpList_append_bytes rfl (.tmp 21) (.tmp 24) rfl (rb + 1) _ _ _ rfl (o2 _) (W1.heap.size + 1) (some ⟨W1.heap.size, 0, none⟩) 1 [c] rfl (fun e => nomatch e) (Bs.new _ _ _ _ _ rfl) (by have := TXX.out.len; have := TXX.out.hk; simp only [List.length_cons, List.length_nil]; omega) (by have := TXX.out.len; have := TXX.out.hk; simp only [List.length_cons, List.length_nil]; omega) (by have := TXX.out.res.lt; have := GR1.out.size; simp; omega) ?_; intro v2 w2 own2 g2 loc2)
          go_step3
          exact goes FrT.mk (TX1.out.appended own2 g2 (by have := TXX.out.len; omega)) (by show LxM.qt _ _ = _; rw [HF.out, HD.out, LxM.qt_cons, if_neg HN1.out, if_neg HN3.out, if_neg HN2.out, LxM.app_map]) KO.out (by have := HL.out; show _ + 1 < _ + 1; omega)
  · rw [if_neg hlt, pk_end s k (by omega)] at TK
    have n1 : ((-1 : Int) == (m.toNat : Int)) = false := by rw [beq_eq_false_iff_ne]; intro e; omega
    have HD := Lib.hid (drop_none s k (by omega))
    go_wp2_with (go_at_call 27; refine TK.out.mono ?_; rintro e W1 ⟨rfl, rd1, gr1⟩)
    go_step3
    exact goes FrT.mk (TXX.out.step rd1 gr1 (Nat.le_refl _) TXX.out.hk) (by show LxM.qt _ _ = _; rw [HF.out, HD.out, LxM.qt_nil]; rfl) KO.out (by show _ + 0 < _ + 1; omega)
end
end Go.Proofs.YtikbgkndfmcfhaaDoor
