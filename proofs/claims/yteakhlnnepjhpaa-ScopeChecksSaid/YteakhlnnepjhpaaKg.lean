/- Texts of one proof behind one another: PrO, PrB, PrG, PrQ. -/
import Derived.Test.YteakhlnnepjhpaaKd
import Derived.Test.YteakhlnnepjhpaaKf
import Derived.Test.YteakhlnnepjhpaaKc
/- The document's parser: rows of one's own that grow. -/
namespace Go.Proofs.Yteakhlnnepjhpaa
open Go.RowKit PrM
set_option linter.unusedVariables false
/-- Blocks from a base on, but a row's own. -/
def PO (base : Nat) (v : Value) : Nat → Prop := fun k => base ≤ k ∧ v.ownBlock ≠ some k
theorem row_push {w w' : World} {base z : Nat} {v v' : Value} {l x : X} {ys : List Value} {cs : Array Value} (h : (Rd w (PO base v) l).own z ys) (hx : (Rd w (PO base v) x).cells cs) (hz : cs.size = z) (g : w.grownBy w' v.ownBlock) (loc : v'.ownBlock = v.ownBlock ∨ v'.ownBlock = some w.heap.size) : (Rd w' (PO base v') (l.snoc x)).own z (ys ++ cs.toList) :=
 (Rd.move ⟨g.size, fun p hp hl => World.cell?_of_block (g.block p.block hl (fun e => hp.2 e.symm)), fun k hk hl => ⟨hk.1, fun e => by
  rcases loc with q | q
  ·rw [q] at e; exact hk.2 e
  ·rw [q] at e; have := Option.some.inj e; omega⟩⟩ _).2.2 _ _ (Rd.own_snoc l z ys x cs h hx hz)
theorem PO.of_lo {w w1 : World} {base : Nat} {v : Value} {x : X} {cs : Array Value} (hb : base ≤ w1.heap.size) (hv : ∀ q, v.ownBlock = some q → q < w1.heap.size) (rd : (Rd w (Lo w1) x).cells cs) : (Rd w (PO base v) x).cells cs :=
 (Rd.move (Moves.of_below (Below.refl _ w) fun k hk _ => ⟨by unfold Lo at hk; omega, fun e => by have := hv k e; unfold Lo at hk; omega⟩) x).1 _ rd
theorem own_move {w w' : World} {base z : Nat} {v : Value} {l : X} {ys : List Value} {F : Nat → Prop} (h : (Rd w (PO base v) l).own z ys) (o : Only F w w') (hF : ∀ k, F k → k < base) : (Rd w' (PO base v) l).own z ys :=
 (Rd.move (Moves.of_only o (fun k hk _ f => by have := hF k f; have := hk.1; omega) fun k hk _ => hk) l).2.2 _ _ h
theorem ownsRow_only {F : Nat → Prop} {w w' : World} {base z n : Nat} {ty : TypeId} {v : Value} {ys : List Value} (h : w.ownsRow base ty z v n ys) (o : Only F w w') (hF : ∀ k, F k → k < base) : w'.ownsRow base ty z v n ys := by
 refine ⟨h.1, ?_⟩
 rcases h.2 with ⟨rfl, h0⟩ | ⟨p, cap, cur, rfl, hp, hbk, hc, h4, hs, ht⟩
 ·exact .inl ⟨rfl, h0⟩
 ·exact .inr ⟨p, cap, cur, rfl, hp, (o.block p (Array.getElem?_eq_some_iff.1 hbk).1 (fun f => by have := hF p f; omega)).trans hbk, hc, h4, hs, ht⟩
theorem wpList_append_row {w : World} {ops : Array Oper} {rest : List Oper} {o : Oper} {a : Act} {Q : Exit → Act → World → Prop} (hgd : o.guard = none) (s x : Operand) (ts te : TypeId) (hu : Try.prog.underlying ts = some (.slice te)) (i : TypeInfo) (hi : Try.prog.info? te = some i) (z0 : Value) (hz : i.zero = some z0) (z bytes : Nat) (hs1 : i.size = z) (hb1 : i.bytes = bytes) (hzc : z0.cells.size = z) (hzp : 0 < z) (hby : bytes ≤ 1000)
  (ho : o.op = .call { callee := .builtin .append, args := #[s, x], argTypes := #[ts, ts] })
  (base : Nat) (v : Value) (n : Nat) (ys : List Value) (hs : a.eval s = v) (hown : w.ownsRow base te z v n ys)
  (b m : Nat) (hx : a.eval x = .slice (some ⟨b, 0, none⟩) m m) (news : List Value) (hl : news.length = m * z) (hnews : ∀ j u, news[j]? = some u → w.cell? ⟨b, j, none⟩ = some u) (h1 : ∀ u ∈ news, u.oneCell' = true) (hm : m ≤ 10) (hlen : n ≤ 100000) (hb : base ≤ w.heap.size)
  (h : ∀ v' w', w'.ownsRow base te z v' (n + m) (ys ++ news) → w.grownBy w' v.ownBlock → (v'.ownBlock = v.ownBlock ∨ v'.ownBlock = some w.heap.size) → wpList Try.prog ops Q rest (a.put o.dst v') w') :
  wpList Try.prog ops Q (o :: rest) a w := by
 refine wpList_append_own_at w hgd s x ts ho base te i z0 z bytes hu hi hz hs1 hb1 hzc hzp v n ys hs hown ⟨b, 0, none⟩ m m news hx hl (fun j u hj => ?_) h1 (by unfold maxLen; omega) ?_ hb fun v' w' g1 g2 _ g4 => h v' w' g1 g2 g4
 ·have e : (⟨b, 0, none⟩ : Addr).add j = ⟨b, j, none⟩ := by unfold Addr.add; split <;> simp_all
  rw [e]; exact hnews j u hj
 ·have : (n + m) * bytes ≤ 100010 * 1000 := Nat.mul_le_mul (by omega) hby
  omega
theorem infoSt : (Try.prog.info? 42).map (fun i => (i.zero, i.size, i.bytes)) = some (some (.agg #[.int .i64 0, .int .i64 0, .slice none 0 0, .slice none 0 0, .slice none 0 0]), 5, 88) := by kernel_rfl
theorem infoE : (Try.prog.info? 39).map (fun i => (i.zero, i.size, i.bytes)) = some (some (.agg #[.int .i64 0, .int .i64 0, .int .i64 0, .string ⟨#[]⟩, .int .i64 0, .slice none 0 0, .slice none 0 0]), 7, 96) := by kernel_rfl
theorem sizeSt : (Try.prog.info? 42).map (·.size) = some 5 := by kernel_rfl
theorem Blk.five {W : World} {b : Nat} {v0 v1 v2 v3 v4 : Value} {t : TypeId} (h : Blk W b #[v0, v1, v2, v3, v4] t) :
  (W.cell? ⟨b, 0, none⟩ = some v0 ∧ W.cell? ⟨b, 1, none⟩ = some v1 ∧ W.cell? ⟨b, 2, none⟩ = some v2 ∧ W.cell? ⟨b, 3, none⟩ = some v3 ∧ W.cell? ⟨b, 4, none⟩ = some v4) ∧
  W.frozen? ⟨b, 0, none⟩ = false ∧ W.frozen? ⟨b, 1, none⟩ = false ∧ W.frozen? ⟨b, 2, none⟩ = false ∧ W.frozen? ⟨b, 3, none⟩ = false ∧ W.frozen? ⟨b, 4, none⟩ = false := by
 have h : W.heap[b]? = _ := h
 simp [World.cell?, World.frozen?, h]
/-- append of one statement to a row of one's own. -/
theorem wpList_append_stat {w : World} {ops : Array Oper} {rest : List Oper} {o : Oper} {a : Act} {Q : Exit → Act → World → Prop} (hgd : o.guard = none) (s x : Operand)
  (ho : o.op = .call { callee := .builtin .append, args := #[s, x], argTypes := #[23, 23] })
  (base : Nat) (v : Value) (n : Nat) (ys : List Value) (hs : a.eval s = v) (hown : w.ownsRow base 42 5 v n ys)
  (b : Nat) (hx : a.eval x = .slice (some ⟨b, 0, none⟩) 1 1) (v0 v1 v2 v3 v4 : Value) (hu : Blk w b #[v0, v1, v2, v3, v4] 42) (h1 : ∀ u ∈ (#[v0, v1, v2, v3, v4] : Array Value).toList, u.oneCell' = true) (hlen : n ≤ 100000) (hb : base ≤ w.heap.size)
  (h : ∀ v' w', w'.ownsRow base 42 5 v' (n + 1) (ys ++ (#[v0, v1, v2, v3, v4] : Array Value).toList) → w.grownBy w' v.ownBlock → (v'.ownBlock = v.ownBlock ∨ v'.ownBlock = some w.heap.size) → wpList Try.prog ops Q rest (a.put o.dst v') w') :
  wpList Try.prog ops Q (o :: rest) a w := by
 obtain ⟨i, hi, hz, k1, k2⟩ := info_parts infoSt
 refine wpList_append_row hgd s x 23 42 Try.underlying23 i hi _ hz 5 88 k1 k2 rfl (by decide) (by decide) ho base v n ys hs hown b 1 hx _ rfl (fun j u hj => ?_) h1 (by decide) hlen hb h
 have h5 : w.heap[b]? = _ := hu
 simp only [World.cell?, h5]
 simpa using hj
end Go.Proofs.Yteakhlnnepjhpaa
/- The document's parser: a block (printed by genpr3.py). -/
namespace Go.Proofs.Yteakhlnnepjhpaa
open Go.RowKit PrM
set_option linter.unusedVariables false
set_option linter.unusedSimpArgs false
abbrev Z5 : Array Value := #[.int .i64 0, .int .i64 0, .slice none 0 0, .slice none 0 0, .slice none 0 0]
/-- A box of a statement. -/
theorem box5 (w : World) (cs : Array Value) (C : Array Value) : ∃ w2, w2 = (w.alloc (.cells C 42)).setRow w.heap.size cs ∧ Hid (Below w.heap.size w w2) ∧ Hid (Blk w2 w.heap.size cs 42) ∧ Hid (w.heap.size < w2.heap.size) := by
 have k := blk_row (cs := cs) (Blk.new w C 42)
 exact ⟨_, rfl, below_row ((Below.refl _ w).alloc (Nat.le_refl _) _) _ (Nat.le_refl _) _, k, k.lt⟩
/-- A row of one's own, and what it reads as, from one world to a later one where old blocks but g are as they were. -/
structure OwnR (W : World) (w : World) (v : Value) (l : X) (ys : List Value) : Prop where
 row : w.ownsRow W.heap.size 42 5 v l.len ys
 rd : (Rd w (PO W.heap.size v) l).own 5 ys
theorem OwnR.only {W w w' : World} {v : Value} {l : X} {ys : List Value} {g : Nat} (h : OwnR W w v l ys) (o : Only (fun k => k = g) w w') (hg : g < W.heap.size) : OwnR W w' v l ys :=
 ⟨ownsRow_only h.row o (fun k e => by omega), own_move h.rd o (fun k e => by omega)⟩
theorem OwnR.pushed {W w w' : World} {v v' : Value} {l x : X} {ys : List Value} {v0 v1 v2 v3 v4 : Value} {C : Array Value} (h : OwnR W w v l ys) (hx : (Rd w (PO W.heap.size v) x).cells #[v0, v1, v2, v3, v4])
  (own2 : w'.ownsRow W.heap.size 42 5 v' (l.len + 1) (ys ++ (#[v0, v1, v2, v3, v4] : Array Value).toList)) (g2 : (w.alloc (.cells C 42)).grownBy w' v.ownBlock) (loc : v'.ownBlock = v.ownBlock ∨ v'.ownBlock = some (w.alloc (.cells C 42)).heap.size) : OwnR W w' v' (l.snoc x) (ys ++ (#[v0, v1, v2, v3, v4] : Array Value).toList) := by
 have b : Below w.heap.size w (w.alloc (.cells C 42)) := (Below.refl _ w).alloc (Nat.le_refl _) _
 have h2 := (Rd.move (Moves.of_below (Q := PO W.heap.size v) b fun _ hk _ => hk) l).2.2 _ _ h.rd
 exact ⟨by rw [X.len_snoc]; exact own2, row_push h2 (mv_below b hx) rfl g2 loc⟩
theorem OwnR.reads {W w : World} {v : Value} {l : X} {ys : List Value} (h : OwnR W w v l ys) : Sl l.len (Rd w (Lo W) l).row 5 v :=
 Rd.of_own h.row ((Rd.move (Moves.of_below (Q := Lo W) (Below.refl _ w) fun k hk _ => hk.1) l).2.2 _ _ h.rd) rfl fun q e => (h.row.lt q e).1
theorem grown_only {w w' : World} {r : Option Nat} (h : w.grownBy w' r) : Only (fun k => r = some k) w w' := ⟨h.os, h.tape, h.output, h.size, fun k hk hn => h.block k hk (fun e => hn e.symm)⟩
/-- How far a parser's loop has come. -/
def mB (N g : Nat) (w : World) : Nat := 2 * (N - (match w.cell? ⟨g, 1, none⟩ with | some v => (intOf v).toNat | none => 0)) + (match w.cell? ⟨g, 2, none⟩ with | some v => (if intOf v = 0 then 1 else 0) | none => 0)
theorem PS.mB {W : World} {g tg c N : Nat} {T : List LxM.T} {st : St} (h : PS W g tg c T st) : mB N g W = 2 * (N - st.i) + (if st.code = 0 then 1 else 0) := by
 obtain ⟨⟨-, c1, c2, -⟩, -⟩ := h.blk.four
 unfold Go.Proofs.Yteakhlnnepjhpaa.mB
 rw [c1, c2]
 show 2 * (N - ((st.i : Int)).toNat) + (if st.code = 0 then 1 else 0) = _
 rw [Int.toNat_natCast]
theorem opt_i {T : List LxM.T} (x : ByteArray) (st : St) : st.i ≤ (opt T x st).i := by
 unfold PrM.opt
 split
 ·exact Nat.le_succ _
 ·exact Nat.le_refl _
theorem opt_code {T : List LxM.T} (x : ByteArray) (st : St) : (opt T x st).code = st.code := by
 unfold PrM.opt
 split <;> rfl
theorem ow_alloc {W w : World} {v : Value} {l : X} {ys : List Value} (h : OwnR W w v l ys) (o : Obj) : (w.alloc o).ownsRow W.heap.size 42 5 v l.len ys :=
 ownsRow_only h.row (Only.of_below (F := fun _ => False) ((Below.refl _ w).alloc (Nat.le_refl _) o)) (fun _ f => f.elim)
theorem only_cell (w : World) (b o : Nat) (u : Value) : Only (fun k => k = b) w (w.setCell ⟨b, o, none⟩ u) := (Only.refl (fun k => k = b) w).setCell (p := ⟨b, o, none⟩) (.inl rfl) u
theorem blkF0 {W : World} {b : Nat} {v0 v1 v2 v3 v4 : Value} {t : TypeId} (h : Blk W b #[v0, v1, v2, v3, v4] t) (u : Value) : Blk (W.setCell ⟨b, 0, none⟩ u) b #[u, v1, v2, v3, v4] t := by
 have h : W.heap[b]? = _ := h
 show (W.setCell ⟨b, 0, none⟩ u).heap[b]? = _
 simp [World.setCell, Array.getElem?_modify, h]
theorem blkF3 {W : World} {b : Nat} {v0 v1 v2 v3 v4 : Value} {t : TypeId} (h : Blk W b #[v0, v1, v2, v3, v4] t) (u : Value) : Blk (W.setCell ⟨b, 3, none⟩ u) b #[v0, v1, v2, u, v4] t := by
 have h : W.heap[b]? = _ := h
 show (W.setCell ⟨b, 3, none⟩ u).heap[b]? = _
 simp [World.setCell, Array.getElem?_modify, h]
theorem strs_nil (w : World) (P : Nat → Prop) : Strs w P (.slice none 0 0) [] := ⟨none, 0, rfl, fun _ => rfl, Nat.le_refl _, fun i hi => absurd hi (by simp)⟩
theorem bare_cells (w : World) (P : Nat → Prop) (k a : Int) : (Rd w P (.s k a [] .nil .nil)).cells #[.int .i64 k, .int .i64 a, .slice none 0 0, .slice none 0 0, .slice none 0 0] :=
 ⟨_, _, _, rfl, strs_nil _ _, sl_nil _ _ _, sl_nil _ _ _⟩
theorem po_cells {w w' : World} {g base : Nat} {v : Value} {x : X} {cs : Array Value} (o : Only (fun k => k = g) w w') (hg : g < base) (rd : (Rd w (PO base v) x).cells cs) : (Rd w' (PO base v) x).cells cs :=
 (Rd.move (Moves.of_only o (fun k hk _ e => by have := hk.1; omega) (fun k hk _ => hk)) x).1 _ rd
/-- A statement with one expression, stored into its box. -/
theorem ret_cells {w8 w7 : World} {b : Nat} (k a : Int) {x : X} {u0 u1 u2 u3 u4 u5 u6 : Value} (rd : (Rd w8 (Lo w7) x).cells #[u0, u1, u2, u3, u4, u5, u6]) (h8 : w7.heap.size ≤ w8.heap.size) (hb : b < w7.heap.size) :
  (Rd ((w8.alloc (.cells #[u0, u1, u2, u3, u4, u5, u6] 39)).setCell ⟨b, 3, none⟩ (.slice (some ⟨w8.heap.size, 0, none⟩) 1 1)) (Lo w7) (.s k a [] (X.one x) .nil)).cells #[.int .i64 k, .int .i64 a, .slice none 0 0, .slice (some ⟨w8.heap.size, 0, none⟩) 1 1, .slice none 0 0] := by
 have s := sl_new (Q := Lo w7) (own_one rd rfl) #[u0, u1, u2, u3, u4, u5, u6] 39 rfl (fun _ hk _ => hk) h8
 exact ⟨_, _, _, rfl, strs_nil _ _, s.imp (Rd.move (Moves.of_only (only_cell _ b 3 _) (fun q hq _ e => by unfold Lo at hq; omega) (fun _ hk _ => hk)) _).2.1, sl_nil _ _ _⟩
section
variable {F g tg c : Nat} {T : List LxM.T}
set_option maxRecDepth 20000 in
set_option maxHeartbeats 16000000 in
theorem block_any (hG : PrM.Good T) (hF : OkF g tg c T F) (W : World) (st : St) (d : Nat) (h : PS W g tg c T st) (hd : d ≤ 100) (hm : 100 * (101 - d) + 3 ≤ F + 1) : Calls Try.prog 16 #[ptr g, .int .i64 (d : Int)] W (RB W g tg c T st ((fs T (F + 1)).block d st)) := by
 have DP := Lib.hid (deep_any h ((d + 1 : Nat) : Int))
 have HDI := Lib.hid (deep_i (T := T) ((d + 1 : Nat) : Int) st)
 have HDC := Lib.hid (deep_code (T := T) (d + 1) st)
 have e1 : (fs T (F + 1)).block (d : Int) st = blockL T (fs T F) ((d + 1 : Nat) : Int) T.length .nil (deep T ((d + 1 : Nat) : Int) st) := rfl
 rw [e1]
 have SA := Lib.hid (fun W1 st1 a b (h1 : PS W1 g tg c T st1) hb hgb (e0 : st1.code = 0) (k : d + 1 ≤ 100) => hF.stat W1 st1 a b (d + 1) h1 hb hgb e0 k (by omega))
 have EX := Lib.hid (fun W1 st1 (h1 : PS W1 g tg c T st1) (k : d + 1 ≤ 100) => hF.exp W1 st1 (d + 1) h1 k (by omega))
 have HG := Lib.hid h.blk.lt
 have HGG := Lib.hid hG
 have HT := Lib.hid h.small
 have i0 : (0 : Int) ≤ (d : Int) := by omega
 have i1 : (d : Int) ≤ 100 := by omega
 obtain ⟨R, eR⟩ : ∃ R, blockL T (fs T F) ((d + 1 : Nat) : Int) T.length .nil (deep T ((d + 1 : Nat) : Int) st) = R := ⟨_, rfl⟩
 rw [eR]
 have HR := Lib.hid eR
 generalize deep T ((d + 1 : Nat) : Int) st = sd at *
 clear h hF hm e1 hd hG eR
 go_enter Try.func16, Try.ntmps16
 go_wp2_with (go_at_call 32; refine DP.out.mono ?_; rintro e wa ⟨rfl, p, o⟩; have PA := Lib.hid p; have OA := Lib.hid o; clear p o)
 go_loopw [5] (fun u wr => ∃ (k : Nat) (s1 : St) (l : X) (ys : List Value), PS wr g tg c T s1 ∧ Only (fun b => b = g) W wr ∧ OwnR W wr u l ys ∧ blockL T (fs T F) ((d + 1 : Nat) : Int) k l s1 = R ∧ (s1.code = 0 → T.length ≤ k + s1.i ∧ d + 1 ≤ 100) ∧ st.i ≤ s1.i ∧ l.len ≤ s1.i + 1 ∧ (s1.code = 0 → l.len ≤ s1.i)) (fun _ wr => mB T.length g wr)
 case atStart => exact ⟨T.length, sd, .nil, [], PA.out, OA.out, ⟨⟨rfl, .inl ⟨rfl, rfl⟩⟩, rfl⟩, HR.out, (fun e => ⟨by omega, (HDC.out e).1⟩), (by have := HDI.out; omega), Nat.zero_le _, fun _ => Nat.zero_le _⟩
 case round =>
  obtain ⟨k, s1, l, ys, p1, o1, ow, hM, hk, hi, hl, hl2⟩ := hrel
  have HL2 := Lib.hid hl2
  have P0 := Lib.hid p1
  have OW := Lib.hid o1
  have RO := Lib.hid ow
  have HM := Lib.hid hM
  have HK := Lib.hid hk
  have HI := Lib.hid hi
  have HL := Lib.hid hl
  have MB := Lib.hid (p1.mB (N := T.length))
  have G0 := Lib.hid (p1.blk.lt)
  have EN := Lib.hid (ends_any p1)
  clear p1 o1 ow hM hk hi hl hl2
  cases hb : ends T s1 with
  | true =>
   rw [hb] at EN
   have ER : Hid (R = (l, s1)) := Lib.hid (by
    rw [← HM.out]
    cases k with
    | zero => rfl
    | succ k => unfold PrM.blockL; rw [if_pos hb])
   clear hb
   go_wp2_with (go_at_call 33; refine EN.out.mono ?_; rintro e w1 ⟨rfl, b⟩; have P1 := Lib.hid (P0.out.below b); have R1 := Lib.hid (RO.out.only (Only.of_below b) HG.out); have O1 := Lib.hid (OW.out.bel b); clear b)
   go_ret
   have er := ER.out
   rw [er]
   exact ⟨⟨_, rfl, R1.out.reads⟩, P1.out, O1.out, HI.out⟩
  | false =>
   rw [hb] at EN
   have hc : s1.code = 0 := by
    unfold PrM.ends at hb
    rw [Bool.or_eq_false_iff] at hb
    simpa using hb.1
   obtain ⟨hk1, hk2⟩ := HK.out hc
   have inb := P0.out.inb
   obtain ⟨k, rfl⟩ : ∃ q, k = q + 1 := ⟨k - 1, by omega⟩
   have OR := Lib.hid (fun W1 (h1 : PS W1 g tg c T s1) => opt_any h1 HGG.out ⟨#[114, 101, 116, 117, 114, 110]⟩)
   have OS := Lib.hid (fun W1 st1 (h1 : PS W1 g tg c T st1) => opt_any h1 HGG.out ⟨#[59]⟩)
   unfold PrM.opt at OR
   cases hr : is T ⟨#[114, 101, 116, 117, 114, 110]⟩ s1 with
   | false =>
    rw [hr, if_neg (by decide)] at OR
    have EM : Hid (blockL T (fs T F) ((d + 1 : Nat) : Int) k (l.snoc ((fs T F).stat (.s 0 (place T s1) [] .nil .nil) ((d + 1 : Nat) : Int) s1).1) (opt T ⟨#[59]⟩ ((fs T F).stat (.s 0 (place T s1) [] .nil .nil) ((d + 1 : Nat) : Int) s1).2) = R) := Lib.hid (by
     have := HM.out
     unfold PrM.blockL at this
     rw [if_neg (by rw [hb]; decide), if_neg (by rw [hr]; decide)] at this
     exact this)
    have SA2 := Lib.hid (fun W1 b (h1 : PS W1 g tg c T s1) hb hgb => SA.out W1 s1 (place T s1) b h1 hb hgb hc hk2)
    generalize (fs T F).stat (.s 0 (place T s1) [] .nil .nil) ((d + 1 : Nat) : Int) s1 = r at *
    have HC := Lib.hid hc
    have HK1 := Lib.hid hk1
    have HK2 := Lib.hid hk2
    clear hb hr hc hk1 hk2
    go_wp2_with (first
     |(go_at_call 33; refine EN.out.mono ?_; rintro e w1 ⟨rfl, b⟩; have P1 := Lib.hid (P0.out.below b); have Q1 := Lib.hid (Only.of_below (F := fun b => b = g) b); clear b)
     |(go_at_call 34; with_reducible refine (place_any P1.out).mono ?_; rintro e w2 ⟨rfl, sm⟩; have P2 := Lib.hid (P1.out.sm sm); have Q2 := Lib.hid (Q1.out.bel (sm.below _)); have P3 := Lib.hid (P2.out.alloc (.cells #[.int .i64 0, .int .i64 (place T s1), .slice none 0 0, .slice none 0 0, .slice none 0 0] 42)); have K3 := Lib.hid (Blk.new w2 #[.int .i64 0, .int .i64 (place T s1), .slice none 0 0, .slice none 0 0, .slice none 0 0] 42); have G6 := Lib.hid (show wr.heap.size ≤ w2.heap.size from Q2.out.size); have Q3 := Lib.hid (Q2.out.alloc (.cells #[.int .i64 0, .int .i64 (place T s1), .slice none 0 0, .slice none 0 0, .slice none 0 0] 42)); clear sm)
     |(go_at_call 35; with_reducible refine (OR.out _ P3.out).mono ?_; rintro e w4 ⟨rfl, p, o⟩; have P4 := Lib.hid p; have Q4 := Lib.hid (Q3.out.up o); have K4 := Lib.hid (K3.out.only o (by have := G6.out; have := G0.out; omega)); clear p o)
     |(go_at_call 38; refine (SA2.out _ _ P4.out K4.out (by have := G6.out; have := G0.out; omega)).mono ?_; rintro e w5 ⟨rfl, ⟨v0, v1, v2, v3, v4, k5, rd⟩, p, o, mi, mv⟩; have P5 := Lib.hid p; have S4 := Lib.hid Q4.out.size; have Q5 := Lib.hid (Q4.out.trans o (fun n f => f.elim .inl (fun e => .inr (by have := G6.out; omega)))); have R5 := Lib.hid (RO.out.only Q5.out HG.out); have RV := Lib.hid (PO.of_lo (v := u5) (Nat.le_trans OW.out.size S4.out) (fun q e => Nat.lt_of_lt_of_le (RO.out.row.lt q e).2 S4.out) rd); have K5 := Lib.hid k5; have MV := Lib.hid mv; have MI := Lib.hid mi; have ZA := Lib.hid (ow_alloc R5.out (.cells #[v0, v1, v2, v3, v4] 42)); have KN := Lib.hid (Blk.new w5 #[v0, v1, v2, v3, v4] 42); have SZ := Lib.hid (show W.heap.size ≤ (w5.alloc (.cells #[v0, v1, v2, v3, v4] 42)).heap.size from Nat.le_trans (Nat.le_trans OW.out.size Q5.out.size) (Nat.le_of_lt (al_lt w5 _))); clear p o mv mi k5 rd; obtain ⟨⟨a0, a1, a2, a3, a4⟩, -⟩ := K5.out.five)
     |(at_builtin; refine wpList_append_stat rfl (.tmp 48) (.tmp 50) rfl W.heap.size u5 l.len ys ?_ ?_ w5.heap.size ?_ v0 v1 v2 v3 v4 ?_ ?_ ?_ ?_ ?_; rfl; exact ZA.out; rfl; exact KN.out; exact Rd.one_cells _ _ RV.out; (have := HL.out; have := P0.out.inb; have := P0.out.small; omega); exact SZ.out; intro v6 w6 own6 g6 l6; have R6 := Lib.hid (OwnR.pushed R5.out RV.out own6 g6 l6); have OG := Lib.hid (grown_only g6); have P6 := Lib.hid ((P5.out.alloc (.cells #[v0, v1, v2, v3, v4] 42)).only OG.out (fun i e => .inl (Nat.lt_of_lt_of_le HG.out (RO.out.row.lt i e).1))); have Q6 := Lib.hid ((OW.out.up Q5.out).alloc (.cells #[v0, v1, v2, v3, v4] 42) |>.trans OG.out (fun i e => .inr (RO.out.row.lt i e).1)); clear own6 g6 l6)
     |(go_at_call 35; refine (OS.out _ _ P6.out).mono ?_; rintro e w7 ⟨rfl, p, o⟩; have P7 := Lib.hid p; have R7 := Lib.hid (R6.out.only o HG.out); have Q7 := Lib.hid (Q6.out.up o); clear p o))
    have oi := opt_i (T := T) ⟨#[59]⟩ r.2
    have oc := opt_code (T := T) ⟨#[59]⟩ r.2
    have mi := MI.out
    have mv := MV.out
    have hl := HL2.out HC.out
    refine ⟨⟨k, opt T ⟨#[59]⟩ r.2, l.snoc r.1, _, P7.out, Q7.out, R7.out, EM.out, fun e => ⟨?_, HK2.out⟩, ?_, ?_, fun e => ?_⟩, ?_⟩
    ·rw [oc] at e
     have := HK1.out
     rcases mv with x | x
     ·exact absurd e x
     ·omega
    ·have := HI.out; omega
    ·rw [X.len_snoc]; omega
    ·rw [oc] at e
     rw [X.len_snoc]
     rcases mv with x | x
     ·exact absurd e x
     ·omega
    ·rw [P7.out.mB, MB.out, if_pos HC.out]
     have := P0.out.inb
     split
     ·rename_i e
      rw [oc] at e
      rcases mv with x | x
      ·exact absurd e x
      ·omega
     ·omega
   | true =>
    rw [hr, if_pos rfl] at OR
    have FA := Lib.hid (fun W1 st1 (h1 : PS W1 g tg c T st1) => fail_any h1 14)
    have EN2 := Lib.hid (fun W1 (h1 : PS W1 g tg c T (up s1)) => ends_any h1)
    have IS2 := Lib.hid (fun W1 (h1 : PS W1 g tg c T (up s1)) => is_any h1 ⟨#[59]⟩)
    have EX2 := Lib.hid (fun W1 (h1 : PS W1 g tg c T (up s1)) => EX.out W1 (up s1) h1 hk2)
    have EM := HM.out
    unfold PrM.blockL at EM
    rw [if_neg (by rw [hb]; decide), if_pos hr] at EM
    have EM := Lib.hid EM
    clear hr hc hk1 hk2 hb
    cases h2 : ends T (up s1) with
    | true =>
     rw [h2] at EN2 EM
     simp only [Bool.true_eq_false, false_and, ↓reduceIte] at EM
     clear h2
     have EN3 := Lib.hid (fun W1 (h1 : PS W1 g tg c T (opt T ⟨#[59]⟩ (up s1))) => ends_any h1)
     cases h4 : ends T (opt T ⟨#[59]⟩ (up s1)) with
     | true =>
      rw [h4] at EN3 EM
      simp only [Bool.false_eq_true, ↓reduceIte] at EM
      have ER := Lib.hid EM.out.symm
      clear h4
      go_wp2_with (first
       |(go_at_call 33; refine EN.out.mono ?_; rintro e w1 ⟨rfl, b⟩; have P1 := Lib.hid (P0.out.below b); have Q1 := Lib.hid (Only.of_below (F := fun b => b = g) b); clear b)
       |(go_at_call 34; with_reducible refine (place_any P1.out).mono ?_; rintro e w2 ⟨rfl, sm⟩; have P2 := Lib.hid (P1.out.sm sm); have Q2 := Lib.hid (Q1.out.bel (sm.below _)); have P3 := Lib.hid (P2.out.alloc (.cells #[.int .i64 0, .int .i64 (place T s1), .slice none 0 0, .slice none 0 0, .slice none 0 0] 42)); have K3 := Lib.hid (Blk.new w2 #[.int .i64 0, .int .i64 (place T s1), .slice none 0 0, .slice none 0 0, .slice none 0 0] 42); have G6 := Lib.hid (show wr.heap.size ≤ w2.heap.size from Q2.out.size); have Q3 := Lib.hid (Q2.out.alloc (.cells #[.int .i64 0, .int .i64 (place T s1), .slice none 0 0, .slice none 0 0, .slice none 0 0] 42)); clear sm)
       |(go_at_call 35; with_reducible refine (OR.out _ P3.out).mono ?_; rintro e w4 ⟨rfl, p, o⟩; have P4 := Lib.hid p; have Q4 := Lib.hid (Q3.out.up o); have K4 := Lib.hid (K3.out.only o (by have := G6.out; have := G0.out; omega)); have ob := only_cell w4 w2.heap.size 0 (.int .i64 10); have P5 := Lib.hid (P4.out.only ob (fun i e => .inl (by have := G6.out; have := G0.out; omega))); have K5 := Lib.hid (blkF0 K4.out (.int .i64 10)); have Q5 := Lib.hid (Q4.out.setCell (p := ⟨w2.heap.size, 0, none⟩) (.inr G6.out) (.int .i64 10)); clear p o ob; obtain ⟨⟨a0, a1, a2, a3, a4⟩, b0, b1, b2, b3, b4⟩ := K4.out.five)
       |(go_at_call 33; refine (EN2.out _ P5.out).mono ?_; rintro e w6 ⟨rfl, b⟩; have P6 := Lib.hid (P5.out.below b); have Q6 := Lib.hid (Q5.out.bel b); have K6 := Lib.hid (K5.out.below b K5.out.lt); have RS6 := Lib.hid (bare_cells w6 (PO W.heap.size u5) 10 (place T s1)); clear b)
       |(go_at_call 35; refine (OS.out _ _ P6.out).mono ?_; rintro e w7 ⟨rfl, p, o⟩; have P7 := Lib.hid p; have Q7 := Lib.hid (Q6.out.up o); have K7 := Lib.hid (K6.out.only o (by have := G6.out; have := G0.out; omega)); have RS7 := Lib.hid (po_cells o HG.out RS6.out); clear p o)
       |(go_at_call 33; refine (EN3.out _ P7.out).mono ?_; rintro e w8 ⟨rfl, b⟩; have P8 := Lib.hid (P7.out.below b); have Q8 := Lib.hid (Q7.out.bel b); have K8 := Lib.hid (K7.out.below b K7.out.lt); have RS8 := Lib.hid (mv_below b RS7.out); clear b; obtain ⟨⟨c0, c1, c2, c3, c4⟩, -⟩ := K8.out.five; have RR := Lib.hid (RO.out.only Q8.out HG.out); have ZA := Lib.hid (ow_alloc RR.out (.cells #[.int .i64 10, .int .i64 (place T s1), .slice none 0 0, .slice none 0 0, .slice none 0 0] 42)); have KN := Lib.hid (Blk.new w8 #[.int .i64 10, .int .i64 (place T s1), .slice none 0 0, .slice none 0 0, .slice none 0 0] 42); have SZ := Lib.hid (show W.heap.size ≤ (w8.alloc (.cells #[.int .i64 10, .int .i64 (place T s1), .slice none 0 0, .slice none 0 0, .slice none 0 0] 42)).heap.size from Nat.le_trans (Nat.le_trans OW.out.size Q8.out.size) (Nat.le_of_lt (al_lt w8 _))))
       |(at_builtin; refine wpList_append_stat rfl (.tmp 41) (.tmp 43) rfl W.heap.size u5 l.len ys ?_ ?_ w8.heap.size ?_ (.int .i64 10) (.int .i64 (place T s1)) (.slice none 0 0) (.slice none 0 0) (.slice none 0 0) ?_ ?_ ?_ ?_ ?_; rfl; exact ZA.out; rfl; exact KN.out; exact Rd.one_cells _ _ RS8.out; (have := HL.out; have := P0.out.inb; have := P0.out.small; omega); exact SZ.out; intro v6 wz own6 g6 l6; have RZ := Lib.hid (OwnR.pushed RR.out RS8.out own6 g6 l6); have OG := Lib.hid (grown_only g6); have PZ := Lib.hid ((P8.out.alloc (.cells #[.int .i64 10, .int .i64 (place T s1), .slice none 0 0, .slice none 0 0, .slice none 0 0] 42)).only OG.out (fun i e => .inl (Nat.lt_of_lt_of_le HG.out (RO.out.row.lt i e).1))); have QZ := Lib.hid ((OW.out.up Q8.out).alloc (.cells #[.int .i64 10, .int .i64 (place T s1), .slice none 0 0, .slice none 0 0, .slice none 0 0] 42) |>.trans OG.out (fun i e => .inr (RO.out.row.lt i e).1)); clear own6 g6 l6))
      go_ret
      have er := ER.out
      rw [er]
      exact ⟨⟨_, rfl, RZ.out.reads⟩, PZ.out, QZ.out, (by have := HI.out; have := opt_i (T := T) ⟨#[59]⟩ (up s1); rw [up_i] at this; (show st.i ≤ (opt T _ _).i; omega))⟩
     | false =>
      rw [h4] at EN3 EM
      simp only [Bool.false_eq_true, ↓reduceIte] at EM
      have ER := Lib.hid EM.out.symm
      clear h4
      go_wp2_with (first
       |(go_at_call 33; refine EN.out.mono ?_; rintro e w1 ⟨rfl, b⟩; have P1 := Lib.hid (P0.out.below b); have Q1 := Lib.hid (Only.of_below (F := fun b => b = g) b); clear b)
       |(go_at_call 34; with_reducible refine (place_any P1.out).mono ?_; rintro e w2 ⟨rfl, sm⟩; have P2 := Lib.hid (P1.out.sm sm); have Q2 := Lib.hid (Q1.out.bel (sm.below _)); have P3 := Lib.hid (P2.out.alloc (.cells #[.int .i64 0, .int .i64 (place T s1), .slice none 0 0, .slice none 0 0, .slice none 0 0] 42)); have K3 := Lib.hid (Blk.new w2 #[.int .i64 0, .int .i64 (place T s1), .slice none 0 0, .slice none 0 0, .slice none 0 0] 42); have G6 := Lib.hid (show wr.heap.size ≤ w2.heap.size from Q2.out.size); have Q3 := Lib.hid (Q2.out.alloc (.cells #[.int .i64 0, .int .i64 (place T s1), .slice none 0 0, .slice none 0 0, .slice none 0 0] 42)); clear sm)
       |(go_at_call 35; with_reducible refine (OR.out _ P3.out).mono ?_; rintro e w4 ⟨rfl, p, o⟩; have P4 := Lib.hid p; have Q4 := Lib.hid (Q3.out.up o); have K4 := Lib.hid (K3.out.only o (by have := G6.out; have := G0.out; omega)); have ob := only_cell w4 w2.heap.size 0 (.int .i64 10); have P5 := Lib.hid (P4.out.only ob (fun i e => .inl (by have := G6.out; have := G0.out; omega))); have K5 := Lib.hid (blkF0 K4.out (.int .i64 10)); have Q5 := Lib.hid (Q4.out.setCell (p := ⟨w2.heap.size, 0, none⟩) (.inr G6.out) (.int .i64 10)); clear p o ob; obtain ⟨⟨a0, a1, a2, a3, a4⟩, b0, b1, b2, b3, b4⟩ := K4.out.five)
       |(go_at_call 33; refine (EN2.out _ P5.out).mono ?_; rintro e w6 ⟨rfl, b⟩; have P6 := Lib.hid (P5.out.below b); have Q6 := Lib.hid (Q5.out.bel b); have K6 := Lib.hid (K5.out.below b K5.out.lt); have RS6 := Lib.hid (bare_cells w6 (PO W.heap.size u5) 10 (place T s1)); clear b)
       |(go_at_call 35; refine (OS.out _ _ P6.out).mono ?_; rintro e w7 ⟨rfl, p, o⟩; have P7 := Lib.hid p; have Q7 := Lib.hid (Q6.out.up o); have K7 := Lib.hid (K6.out.only o (by have := G6.out; have := G0.out; omega)); have RS7 := Lib.hid (po_cells o HG.out RS6.out); clear p o)
       |(go_at_call 33; refine (EN3.out _ P7.out).mono ?_; rintro e w8 ⟨rfl, b⟩; have P8 := Lib.hid (P7.out.below b); have Q8 := Lib.hid (Q7.out.bel b); have K8 := Lib.hid (K7.out.below b K7.out.lt); have RS8 := Lib.hid (mv_below b RS7.out); clear b)
       |(go_at_call 17; refine (FA.out _ _ P8.out).mono ?_; rintro e w9 ⟨rfl, p, o⟩; have P9 := Lib.hid p; have Q9 := Lib.hid (Q8.out.up o); have K9 := Lib.hid (K8.out.only o (by have := G6.out; have := G0.out; omega)); have RS9 := Lib.hid (po_cells o HG.out RS8.out); clear p o; obtain ⟨⟨c0, c1, c2, c3, c4⟩, -⟩ := K9.out.five; have RR := Lib.hid (RO.out.only Q9.out HG.out); have ZA := Lib.hid (ow_alloc RR.out (.cells #[.int .i64 10, .int .i64 (place T s1), .slice none 0 0, .slice none 0 0, .slice none 0 0] 42)); have KN := Lib.hid (Blk.new w9 #[.int .i64 10, .int .i64 (place T s1), .slice none 0 0, .slice none 0 0, .slice none 0 0] 42); have SZ := Lib.hid (show W.heap.size ≤ (w9.alloc (.cells #[.int .i64 10, .int .i64 (place T s1), .slice none 0 0, .slice none 0 0, .slice none 0 0] 42)).heap.size from Nat.le_trans (Nat.le_trans OW.out.size Q9.out.size) (Nat.le_of_lt (al_lt w9 _))))
       |(at_builtin; refine wpList_append_stat rfl (.tmp 41) (.tmp 43) rfl W.heap.size u5 l.len ys ?_ ?_ w9.heap.size ?_ (.int .i64 10) (.int .i64 (place T s1)) (.slice none 0 0) (.slice none 0 0) (.slice none 0 0) ?_ ?_ ?_ ?_ ?_; rfl; exact ZA.out; rfl; exact KN.out; exact Rd.one_cells _ _ RS9.out; (have := HL.out; have := P0.out.inb; have := P0.out.small; omega); exact SZ.out; intro v6 wz own6 g6 l6; have RZ := Lib.hid (OwnR.pushed RR.out RS9.out own6 g6 l6); have OG := Lib.hid (grown_only g6); have PZ := Lib.hid ((P9.out.alloc (.cells #[.int .i64 10, .int .i64 (place T s1), .slice none 0 0, .slice none 0 0, .slice none 0 0] 42)).only OG.out (fun i e => .inl (Nat.lt_of_lt_of_le HG.out (RO.out.row.lt i e).1))); have QZ := Lib.hid ((OW.out.up Q9.out).alloc (.cells #[.int .i64 10, .int .i64 (place T s1), .slice none 0 0, .slice none 0 0, .slice none 0 0] 42) |>.trans OG.out (fun i e => .inr (RO.out.row.lt i e).1)); clear own6 g6 l6))
      go_ret
      have er := ER.out
      rw [er]
      exact ⟨⟨_, rfl, RZ.out.reads⟩, PZ.out, QZ.out, (by have := HI.out; have := opt_i (T := T) ⟨#[59]⟩ (up s1); rw [up_i] at this; show st.i ≤ (PrM.fail T 14 _).i; unfold PrM.fail; split <;> (show st.i ≤ (opt T _ _).i; omega))⟩
    | false =>
     rw [h2] at EN2 EM
     cases h3 : is T ⟨#[59]⟩ (up s1) with
     | true =>
      rw [h3] at IS2 EM
      simp only [Bool.true_eq_false, and_false, ↓reduceIte] at EM
      clear h2 h3
      have EN3 := Lib.hid (fun W1 (h1 : PS W1 g tg c T (opt T ⟨#[59]⟩ (up s1))) => ends_any h1)
      cases h4 : ends T (opt T ⟨#[59]⟩ (up s1)) with
      | true =>
       rw [h4] at EN3 EM
       simp only [Bool.false_eq_true, ↓reduceIte] at EM
       have ER := Lib.hid EM.out.symm
       clear h4
       go_wp2_with (first
        |(go_at_call 33; refine EN.out.mono ?_; rintro e w1 ⟨rfl, b⟩; have P1 := Lib.hid (P0.out.below b); have Q1 := Lib.hid (Only.of_below (F := fun b => b = g) b); clear b)
        |(go_at_call 34; with_reducible refine (place_any P1.out).mono ?_; rintro e w2 ⟨rfl, sm⟩; have P2 := Lib.hid (P1.out.sm sm); have Q2 := Lib.hid (Q1.out.bel (sm.below _)); have P3 := Lib.hid (P2.out.alloc (.cells #[.int .i64 0, .int .i64 (place T s1), .slice none 0 0, .slice none 0 0, .slice none 0 0] 42)); have K3 := Lib.hid (Blk.new w2 #[.int .i64 0, .int .i64 (place T s1), .slice none 0 0, .slice none 0 0, .slice none 0 0] 42); have G6 := Lib.hid (show wr.heap.size ≤ w2.heap.size from Q2.out.size); have Q3 := Lib.hid (Q2.out.alloc (.cells #[.int .i64 0, .int .i64 (place T s1), .slice none 0 0, .slice none 0 0, .slice none 0 0] 42)); clear sm)
        |(go_at_call 35; with_reducible refine (OR.out _ P3.out).mono ?_; rintro e w4 ⟨rfl, p, o⟩; have P4 := Lib.hid p; have Q4 := Lib.hid (Q3.out.up o); have K4 := Lib.hid (K3.out.only o (by have := G6.out; have := G0.out; omega)); have ob := only_cell w4 w2.heap.size 0 (.int .i64 10); have P5 := Lib.hid (P4.out.only ob (fun i e => .inl (by have := G6.out; have := G0.out; omega))); have K5 := Lib.hid (blkF0 K4.out (.int .i64 10)); have Q5 := Lib.hid (Q4.out.setCell (p := ⟨w2.heap.size, 0, none⟩) (.inr G6.out) (.int .i64 10)); clear p o ob; obtain ⟨⟨a0, a1, a2, a3, a4⟩, b0, b1, b2, b3, b4⟩ := K4.out.five)
        |(go_at_call 33; refine (EN2.out _ P5.out).mono ?_; rintro e w6 ⟨rfl, b⟩; have P6 := Lib.hid (P5.out.below b); have Q6 := Lib.hid (Q5.out.bel b); have K6 := Lib.hid (K5.out.below b K5.out.lt); clear b)
        |(go_at_call 36; refine (IS2.out _ P6.out).mono ?_; rintro e w7 ⟨rfl, b⟩; have P7 := Lib.hid (P6.out.below b); have Q7 := Lib.hid (Q6.out.bel b); have K7 := Lib.hid (K6.out.below b K6.out.lt); have RS7 := Lib.hid (bare_cells w7 (PO W.heap.size u5) 10 (place T s1)); clear b)
        |(go_at_call 35; refine (OS.out _ _ P7.out).mono ?_; rintro e w8 ⟨rfl, p, o⟩; have P8 := Lib.hid p; have Q8 := Lib.hid (Q7.out.up o); have K8 := Lib.hid (K7.out.only o (by have := G6.out; have := G0.out; omega)); have RS8 := Lib.hid (po_cells o HG.out RS7.out); clear p o)
        |(go_at_call 33; refine (EN3.out _ P8.out).mono ?_; rintro e w9 ⟨rfl, b⟩; have P9 := Lib.hid (P8.out.below b); have Q9 := Lib.hid (Q8.out.bel b); have K9 := Lib.hid (K8.out.below b K8.out.lt); have RS9 := Lib.hid (mv_below b RS8.out); clear b; obtain ⟨⟨c0, c1, c2, c3, c4⟩, -⟩ := K9.out.five; have RR := Lib.hid (RO.out.only Q9.out HG.out); have ZA := Lib.hid (ow_alloc RR.out (.cells #[.int .i64 10, .int .i64 (place T s1), .slice none 0 0, .slice none 0 0, .slice none 0 0] 42)); have KN := Lib.hid (Blk.new w9 #[.int .i64 10, .int .i64 (place T s1), .slice none 0 0, .slice none 0 0, .slice none 0 0] 42); have SZ := Lib.hid (show W.heap.size ≤ (w9.alloc (.cells #[.int .i64 10, .int .i64 (place T s1), .slice none 0 0, .slice none 0 0, .slice none 0 0] 42)).heap.size from Nat.le_trans (Nat.le_trans OW.out.size Q9.out.size) (Nat.le_of_lt (al_lt w9 _))))
        |(at_builtin; refine wpList_append_stat rfl (.tmp 41) (.tmp 43) rfl W.heap.size u5 l.len ys ?_ ?_ w9.heap.size ?_ (.int .i64 10) (.int .i64 (place T s1)) (.slice none 0 0) (.slice none 0 0) (.slice none 0 0) ?_ ?_ ?_ ?_ ?_; rfl; exact ZA.out; rfl; exact KN.out; exact Rd.one_cells _ _ RS9.out; (have := HL.out; have := P0.out.inb; have := P0.out.small; omega); exact SZ.out; intro v6 wz own6 g6 l6; have RZ := Lib.hid (OwnR.pushed RR.out RS9.out own6 g6 l6); have OG := Lib.hid (grown_only g6); have PZ := Lib.hid ((P9.out.alloc (.cells #[.int .i64 10, .int .i64 (place T s1), .slice none 0 0, .slice none 0 0, .slice none 0 0] 42)).only OG.out (fun i e => .inl (Nat.lt_of_lt_of_le HG.out (RO.out.row.lt i e).1))); have QZ := Lib.hid ((OW.out.up Q9.out).alloc (.cells #[.int .i64 10, .int .i64 (place T s1), .slice none 0 0, .slice none 0 0, .slice none 0 0] 42) |>.trans OG.out (fun i e => .inr (RO.out.row.lt i e).1)); clear own6 g6 l6))
       go_ret
       have er := ER.out
       rw [er]
       exact ⟨⟨_, rfl, RZ.out.reads⟩, PZ.out, QZ.out, (by have := HI.out; have := opt_i (T := T) ⟨#[59]⟩ (up s1); rw [up_i] at this; (show st.i ≤ (opt T _ _).i; omega))⟩
      | false =>
       rw [h4] at EN3 EM
       simp only [Bool.false_eq_true, ↓reduceIte] at EM
       have ER := Lib.hid EM.out.symm
       clear h4
       go_wp2_with (first
        |(go_at_call 33; refine EN.out.mono ?_; rintro e w1 ⟨rfl, b⟩; have P1 := Lib.hid (P0.out.below b); have Q1 := Lib.hid (Only.of_below (F := fun b => b = g) b); clear b)
        |(go_at_call 34; with_reducible refine (place_any P1.out).mono ?_; rintro e w2 ⟨rfl, sm⟩; have P2 := Lib.hid (P1.out.sm sm); have Q2 := Lib.hid (Q1.out.bel (sm.below _)); have P3 := Lib.hid (P2.out.alloc (.cells #[.int .i64 0, .int .i64 (place T s1), .slice none 0 0, .slice none 0 0, .slice none 0 0] 42)); have K3 := Lib.hid (Blk.new w2 #[.int .i64 0, .int .i64 (place T s1), .slice none 0 0, .slice none 0 0, .slice none 0 0] 42); have G6 := Lib.hid (show wr.heap.size ≤ w2.heap.size from Q2.out.size); have Q3 := Lib.hid (Q2.out.alloc (.cells #[.int .i64 0, .int .i64 (place T s1), .slice none 0 0, .slice none 0 0, .slice none 0 0] 42)); clear sm)
        |(go_at_call 35; with_reducible refine (OR.out _ P3.out).mono ?_; rintro e w4 ⟨rfl, p, o⟩; have P4 := Lib.hid p; have Q4 := Lib.hid (Q3.out.up o); have K4 := Lib.hid (K3.out.only o (by have := G6.out; have := G0.out; omega)); have ob := only_cell w4 w2.heap.size 0 (.int .i64 10); have P5 := Lib.hid (P4.out.only ob (fun i e => .inl (by have := G6.out; have := G0.out; omega))); have K5 := Lib.hid (blkF0 K4.out (.int .i64 10)); have Q5 := Lib.hid (Q4.out.setCell (p := ⟨w2.heap.size, 0, none⟩) (.inr G6.out) (.int .i64 10)); clear p o ob; obtain ⟨⟨a0, a1, a2, a3, a4⟩, b0, b1, b2, b3, b4⟩ := K4.out.five)
        |(go_at_call 33; refine (EN2.out _ P5.out).mono ?_; rintro e w6 ⟨rfl, b⟩; have P6 := Lib.hid (P5.out.below b); have Q6 := Lib.hid (Q5.out.bel b); have K6 := Lib.hid (K5.out.below b K5.out.lt); clear b)
        |(go_at_call 36; refine (IS2.out _ P6.out).mono ?_; rintro e w7 ⟨rfl, b⟩; have P7 := Lib.hid (P6.out.below b); have Q7 := Lib.hid (Q6.out.bel b); have K7 := Lib.hid (K6.out.below b K6.out.lt); have RS7 := Lib.hid (bare_cells w7 (PO W.heap.size u5) 10 (place T s1)); clear b)
        |(go_at_call 35; refine (OS.out _ _ P7.out).mono ?_; rintro e w8 ⟨rfl, p, o⟩; have P8 := Lib.hid p; have Q8 := Lib.hid (Q7.out.up o); have K8 := Lib.hid (K7.out.only o (by have := G6.out; have := G0.out; omega)); have RS8 := Lib.hid (po_cells o HG.out RS7.out); clear p o)
        |(go_at_call 33; refine (EN3.out _ P8.out).mono ?_; rintro e w9 ⟨rfl, b⟩; have P9 := Lib.hid (P8.out.below b); have Q9 := Lib.hid (Q8.out.bel b); have K9 := Lib.hid (K8.out.below b K8.out.lt); have RS9 := Lib.hid (mv_below b RS8.out); clear b)
        |(go_at_call 17; refine (FA.out _ _ P9.out).mono ?_; rintro e w10 ⟨rfl, p, o⟩; have P10 := Lib.hid p; have Q10 := Lib.hid (Q9.out.up o); have K10 := Lib.hid (K9.out.only o (by have := G6.out; have := G0.out; omega)); have RS10 := Lib.hid (po_cells o HG.out RS9.out); clear p o; obtain ⟨⟨c0, c1, c2, c3, c4⟩, -⟩ := K10.out.five; have RR := Lib.hid (RO.out.only Q10.out HG.out); have ZA := Lib.hid (ow_alloc RR.out (.cells #[.int .i64 10, .int .i64 (place T s1), .slice none 0 0, .slice none 0 0, .slice none 0 0] 42)); have KN := Lib.hid (Blk.new w10 #[.int .i64 10, .int .i64 (place T s1), .slice none 0 0, .slice none 0 0, .slice none 0 0] 42); have SZ := Lib.hid (show W.heap.size ≤ (w10.alloc (.cells #[.int .i64 10, .int .i64 (place T s1), .slice none 0 0, .slice none 0 0, .slice none 0 0] 42)).heap.size from Nat.le_trans (Nat.le_trans OW.out.size Q10.out.size) (Nat.le_of_lt (al_lt w10 _))))
        |(at_builtin; refine wpList_append_stat rfl (.tmp 41) (.tmp 43) rfl W.heap.size u5 l.len ys ?_ ?_ w10.heap.size ?_ (.int .i64 10) (.int .i64 (place T s1)) (.slice none 0 0) (.slice none 0 0) (.slice none 0 0) ?_ ?_ ?_ ?_ ?_; rfl; exact ZA.out; rfl; exact KN.out; exact Rd.one_cells _ _ RS10.out; (have := HL.out; have := P0.out.inb; have := P0.out.small; omega); exact SZ.out; intro v6 wz own6 g6 l6; have RZ := Lib.hid (OwnR.pushed RR.out RS10.out own6 g6 l6); have OG := Lib.hid (grown_only g6); have PZ := Lib.hid ((P10.out.alloc (.cells #[.int .i64 10, .int .i64 (place T s1), .slice none 0 0, .slice none 0 0, .slice none 0 0] 42)).only OG.out (fun i e => .inl (Nat.lt_of_lt_of_le HG.out (RO.out.row.lt i e).1))); have QZ := Lib.hid ((OW.out.up Q10.out).alloc (.cells #[.int .i64 10, .int .i64 (place T s1), .slice none 0 0, .slice none 0 0, .slice none 0 0] 42) |>.trans OG.out (fun i e => .inr (RO.out.row.lt i e).1)); clear own6 g6 l6))
       go_ret
       have er := ER.out
       rw [er]
       exact ⟨⟨_, rfl, RZ.out.reads⟩, PZ.out, QZ.out, (by have := HI.out; have := opt_i (T := T) ⟨#[59]⟩ (up s1); rw [up_i] at this; show st.i ≤ (PrM.fail T 14 _).i; unfold PrM.fail; split <;> (show st.i ≤ (opt T _ _).i; omega))⟩
     | false =>
      rw [h3] at IS2 EM
      simp only [and_self, ↓reduceIte] at EM
      clear h2 h3
      have EN3 := Lib.hid (fun W1 (h1 : PS W1 g tg c T (opt T ⟨#[59]⟩ ((fs T F).exp ((d + 1 : Nat) : Int) (up s1)).2)) => ends_any h1)
      cases h4 : ends T (opt T ⟨#[59]⟩ ((fs T F).exp ((d + 1 : Nat) : Int) (up s1)).2) with
      | true =>
       rw [h4] at EN3 EM
       simp only [Bool.false_eq_true, ↓reduceIte] at EM
       have ER := Lib.hid EM.out.symm
       clear h4
       go_wp2_with (first
        |(go_at_call 33; refine EN.out.mono ?_; rintro e w1 ⟨rfl, b⟩; have P1 := Lib.hid (P0.out.below b); have Q1 := Lib.hid (Only.of_below (F := fun b => b = g) b); clear b)
        |(go_at_call 34; with_reducible refine (place_any P1.out).mono ?_; rintro e w2 ⟨rfl, sm⟩; have P2 := Lib.hid (P1.out.sm sm); have Q2 := Lib.hid (Q1.out.bel (sm.below _)); have P3 := Lib.hid (P2.out.alloc (.cells #[.int .i64 0, .int .i64 (place T s1), .slice none 0 0, .slice none 0 0, .slice none 0 0] 42)); have K3 := Lib.hid (Blk.new w2 #[.int .i64 0, .int .i64 (place T s1), .slice none 0 0, .slice none 0 0, .slice none 0 0] 42); have G6 := Lib.hid (show wr.heap.size ≤ w2.heap.size from Q2.out.size); have Q3 := Lib.hid (Q2.out.alloc (.cells #[.int .i64 0, .int .i64 (place T s1), .slice none 0 0, .slice none 0 0, .slice none 0 0] 42)); clear sm)
        |(go_at_call 35; with_reducible refine (OR.out _ P3.out).mono ?_; rintro e w4 ⟨rfl, p, o⟩; have P4 := Lib.hid p; have Q4 := Lib.hid (Q3.out.up o); have K4 := Lib.hid (K3.out.only o (by have := G6.out; have := G0.out; omega)); have ob := only_cell w4 w2.heap.size 0 (.int .i64 10); have P5 := Lib.hid (P4.out.only ob (fun i e => .inl (by have := G6.out; have := G0.out; omega))); have K5 := Lib.hid (blkF0 K4.out (.int .i64 10)); have Q5 := Lib.hid (Q4.out.setCell (p := ⟨w2.heap.size, 0, none⟩) (.inr G6.out) (.int .i64 10)); clear p o ob; obtain ⟨⟨a0, a1, a2, a3, a4⟩, b0, b1, b2, b3, b4⟩ := K4.out.five)
        |(go_at_call 33; refine (EN2.out _ P5.out).mono ?_; rintro e w6 ⟨rfl, b⟩; have P6 := Lib.hid (P5.out.below b); have Q6 := Lib.hid (Q5.out.bel b); have K6 := Lib.hid (K5.out.below b K5.out.lt); clear b)
        |(go_at_call 36; refine (IS2.out _ P6.out).mono ?_; rintro e w7 ⟨rfl, b⟩; have P7 := Lib.hid (P6.out.below b); have Q7 := Lib.hid (Q6.out.bel b); have K7 := Lib.hid (K6.out.below b K6.out.lt); clear b)
        |(go_at_call 37; refine (EX2.out _ P7.out).mono ?_; rintro e w8 ⟨⟨q0, q1, q2, q3, q4, q5, q6, rfl, rd⟩, p, o, ii⟩; have P8 := Lib.hid p; have Q8 := Lib.hid (Q7.out.up o); have K8 := Lib.hid (K7.out.only o (by have := G6.out; have := G0.out; omega)); have B7 := Lib.hid (show w2.heap.size < w7.heap.size from K7.out.lt); have S8 := Lib.hid (Nat.le_trans (show w7.heap.size ≤ w8.heap.size from o.size) (Nat.le_refl _)); have II := Lib.hid ii; have ob := only_cell (w8.alloc (.cells #[q0, q1, q2, q3, q4, q5, q6] 39)) w2.heap.size 3 (.slice (some ⟨w8.heap.size, 0, none⟩) 1 1); have P9 := Lib.hid ((P8.out.alloc (.cells #[q0, q1, q2, q3, q4, q5, q6] 39)).only ob (fun i e => .inl (by have := G6.out; have := G0.out; omega))); have KA := Lib.hid (K8.out.below ((Below.refl _ w8).alloc (Nat.le_refl _) (.cells #[q0, q1, q2, q3, q4, q5, q6] 39)) K8.out.lt); have K9 := Lib.hid (blkF3 KA.out (.slice (some ⟨w8.heap.size, 0, none⟩) 1 1)); have Q9 := Lib.hid ((Q8.out.alloc (.cells #[q0, q1, q2, q3, q4, q5, q6] 39)).setCell (p := ⟨w2.heap.size, 3, none⟩) (.inr G6.out) (.slice (some ⟨w8.heap.size, 0, none⟩) 1 1)); have RS9 := Lib.hid (PO.of_lo (v := u5) (Nat.le_trans OW.out.size Q7.out.size) (fun q e => Nat.lt_of_lt_of_le (RO.out.row.lt q e).2 Q7.out.size) (ret_cells (b := w2.heap.size) 10 (place T s1) rd S8.out B7.out)); clear p o ii rd ob; obtain ⟨⟨a0, a1, a2, a3, a4⟩, b0, b1, b2, b3, b4⟩ := KA.out.five)
        |(go_at_call 35; refine (OS.out _ _ P9.out).mono ?_; rintro e w10 ⟨rfl, p, o⟩; have P10 := Lib.hid p; have Q10 := Lib.hid (Q9.out.up o); have K10 := Lib.hid (K9.out.only o (by have := G6.out; have := G0.out; omega)); have RS10 := Lib.hid (po_cells o HG.out RS9.out); clear p o)
        |(go_at_call 33; refine (EN3.out _ P10.out).mono ?_; rintro e w11 ⟨rfl, b⟩; have P11 := Lib.hid (P10.out.below b); have Q11 := Lib.hid (Q10.out.bel b); have K11 := Lib.hid (K10.out.below b K10.out.lt); have RS11 := Lib.hid (mv_below b RS10.out); clear b; obtain ⟨⟨c0, c1, c2, c3, c4⟩, -⟩ := K11.out.five; have RR := Lib.hid (RO.out.only Q11.out HG.out); have ZA := Lib.hid (ow_alloc RR.out (.cells #[.int .i64 10, .int .i64 (place T s1), .slice none 0 0, .slice (some ⟨w8.heap.size, 0, none⟩) 1 1, .slice none 0 0] 42)); have KN := Lib.hid (Blk.new w11 #[.int .i64 10, .int .i64 (place T s1), .slice none 0 0, .slice (some ⟨w8.heap.size, 0, none⟩) 1 1, .slice none 0 0] 42); have SZ := Lib.hid (show W.heap.size ≤ (w11.alloc (.cells #[.int .i64 10, .int .i64 (place T s1), .slice none 0 0, .slice (some ⟨w8.heap.size, 0, none⟩) 1 1, .slice none 0 0] 42)).heap.size from Nat.le_trans (Nat.le_trans OW.out.size Q11.out.size) (Nat.le_of_lt (al_lt w11 _))))
        |(at_builtin; refine wpList_append_stat rfl (.tmp 41) (.tmp 43) rfl W.heap.size u5 l.len ys ?_ ?_ w11.heap.size ?_ (.int .i64 10) (.int .i64 (place T s1)) (.slice none 0 0) (.slice (some ⟨w8.heap.size, 0, none⟩) 1 1) (.slice none 0 0) ?_ ?_ ?_ ?_ ?_; rfl; exact ZA.out; rfl; exact KN.out; exact Rd.one_cells _ _ RS11.out; (have := HL.out; have := P0.out.inb; have := P0.out.small; omega); exact SZ.out; intro v6 wz own6 g6 l6; have RZ := Lib.hid (OwnR.pushed RR.out RS11.out own6 g6 l6); have OG := Lib.hid (grown_only g6); have PZ := Lib.hid ((P11.out.alloc (.cells #[.int .i64 10, .int .i64 (place T s1), .slice none 0 0, .slice (some ⟨w8.heap.size, 0, none⟩) 1 1, .slice none 0 0] 42)).only OG.out (fun i e => .inl (Nat.lt_of_lt_of_le HG.out (RO.out.row.lt i e).1))); have QZ := Lib.hid ((OW.out.up Q11.out).alloc (.cells #[.int .i64 10, .int .i64 (place T s1), .slice none 0 0, .slice (some ⟨w8.heap.size, 0, none⟩) 1 1, .slice none 0 0] 42) |>.trans OG.out (fun i e => .inr (RO.out.row.lt i e).1)); clear own6 g6 l6))
       go_ret
       have er := ER.out
       rw [er]
       exact ⟨⟨_, rfl, RZ.out.reads⟩, PZ.out, QZ.out, (by have h1 := HI.out; have h2 := II.out; have := opt_i (T := T) ⟨#[59]⟩ ((fs T F).exp ((d + 1 : Nat) : Int) (up s1)).2; rw [up_i] at h2; (show st.i ≤ (opt T _ _).i; omega))⟩
      | false =>
       rw [h4] at EN3 EM
       simp only [Bool.false_eq_true, ↓reduceIte] at EM
       have ER := Lib.hid EM.out.symm
       clear h4
       go_wp2_with (first
        |(go_at_call 33; refine EN.out.mono ?_; rintro e w1 ⟨rfl, b⟩; have P1 := Lib.hid (P0.out.below b); have Q1 := Lib.hid (Only.of_below (F := fun b => b = g) b); clear b)
        |(go_at_call 34; with_reducible refine (place_any P1.out).mono ?_; rintro e w2 ⟨rfl, sm⟩; have P2 := Lib.hid (P1.out.sm sm); have Q2 := Lib.hid (Q1.out.bel (sm.below _)); have P3 := Lib.hid (P2.out.alloc (.cells #[.int .i64 0, .int .i64 (place T s1), .slice none 0 0, .slice none 0 0, .slice none 0 0] 42)); have K3 := Lib.hid (Blk.new w2 #[.int .i64 0, .int .i64 (place T s1), .slice none 0 0, .slice none 0 0, .slice none 0 0] 42); have G6 := Lib.hid (show wr.heap.size ≤ w2.heap.size from Q2.out.size); have Q3 := Lib.hid (Q2.out.alloc (.cells #[.int .i64 0, .int .i64 (place T s1), .slice none 0 0, .slice none 0 0, .slice none 0 0] 42)); clear sm)
        |(go_at_call 35; with_reducible refine (OR.out _ P3.out).mono ?_; rintro e w4 ⟨rfl, p, o⟩; have P4 := Lib.hid p; have Q4 := Lib.hid (Q3.out.up o); have K4 := Lib.hid (K3.out.only o (by have := G6.out; have := G0.out; omega)); have ob := only_cell w4 w2.heap.size 0 (.int .i64 10); have P5 := Lib.hid (P4.out.only ob (fun i e => .inl (by have := G6.out; have := G0.out; omega))); have K5 := Lib.hid (blkF0 K4.out (.int .i64 10)); have Q5 := Lib.hid (Q4.out.setCell (p := ⟨w2.heap.size, 0, none⟩) (.inr G6.out) (.int .i64 10)); clear p o ob; obtain ⟨⟨a0, a1, a2, a3, a4⟩, b0, b1, b2, b3, b4⟩ := K4.out.five)
        |(go_at_call 33; refine (EN2.out _ P5.out).mono ?_; rintro e w6 ⟨rfl, b⟩; have P6 := Lib.hid (P5.out.below b); have Q6 := Lib.hid (Q5.out.bel b); have K6 := Lib.hid (K5.out.below b K5.out.lt); clear b)
        |(go_at_call 36; refine (IS2.out _ P6.out).mono ?_; rintro e w7 ⟨rfl, b⟩; have P7 := Lib.hid (P6.out.below b); have Q7 := Lib.hid (Q6.out.bel b); have K7 := Lib.hid (K6.out.below b K6.out.lt); clear b)
        |(go_at_call 37; refine (EX2.out _ P7.out).mono ?_; rintro e w8 ⟨⟨q0, q1, q2, q3, q4, q5, q6, rfl, rd⟩, p, o, ii⟩; have P8 := Lib.hid p; have Q8 := Lib.hid (Q7.out.up o); have K8 := Lib.hid (K7.out.only o (by have := G6.out; have := G0.out; omega)); have B7 := Lib.hid (show w2.heap.size < w7.heap.size from K7.out.lt); have S8 := Lib.hid (Nat.le_trans (show w7.heap.size ≤ w8.heap.size from o.size) (Nat.le_refl _)); have II := Lib.hid ii; have ob := only_cell (w8.alloc (.cells #[q0, q1, q2, q3, q4, q5, q6] 39)) w2.heap.size 3 (.slice (some ⟨w8.heap.size, 0, none⟩) 1 1); have P9 := Lib.hid ((P8.out.alloc (.cells #[q0, q1, q2, q3, q4, q5, q6] 39)).only ob (fun i e => .inl (by have := G6.out; have := G0.out; omega))); have KA := Lib.hid (K8.out.below ((Below.refl _ w8).alloc (Nat.le_refl _) (.cells #[q0, q1, q2, q3, q4, q5, q6] 39)) K8.out.lt); have K9 := Lib.hid (blkF3 KA.out (.slice (some ⟨w8.heap.size, 0, none⟩) 1 1)); have Q9 := Lib.hid ((Q8.out.alloc (.cells #[q0, q1, q2, q3, q4, q5, q6] 39)).setCell (p := ⟨w2.heap.size, 3, none⟩) (.inr G6.out) (.slice (some ⟨w8.heap.size, 0, none⟩) 1 1)); have RS9 := Lib.hid (PO.of_lo (v := u5) (Nat.le_trans OW.out.size Q7.out.size) (fun q e => Nat.lt_of_lt_of_le (RO.out.row.lt q e).2 Q7.out.size) (ret_cells (b := w2.heap.size) 10 (place T s1) rd S8.out B7.out)); clear p o ii rd ob; obtain ⟨⟨a0, a1, a2, a3, a4⟩, b0, b1, b2, b3, b4⟩ := KA.out.five)
        |(go_at_call 35; refine (OS.out _ _ P9.out).mono ?_; rintro e w10 ⟨rfl, p, o⟩; have P10 := Lib.hid p; have Q10 := Lib.hid (Q9.out.up o); have K10 := Lib.hid (K9.out.only o (by have := G6.out; have := G0.out; omega)); have RS10 := Lib.hid (po_cells o HG.out RS9.out); clear p o)
        |(go_at_call 33; refine (EN3.out _ P10.out).mono ?_; rintro e w11 ⟨rfl, b⟩; have P11 := Lib.hid (P10.out.below b); have Q11 := Lib.hid (Q10.out.bel b); have K11 := Lib.hid (K10.out.below b K10.out.lt); have RS11 := Lib.hid (mv_below b RS10.out); clear b)
        |(go_at_call 17; refine (FA.out _ _ P11.out).mono ?_; rintro e w12 ⟨rfl, p, o⟩; have P12 := Lib.hid p; have Q12 := Lib.hid (Q11.out.up o); have K12 := Lib.hid (K11.out.only o (by have := G6.out; have := G0.out; omega)); have RS12 := Lib.hid (po_cells o HG.out RS11.out); clear p o; obtain ⟨⟨c0, c1, c2, c3, c4⟩, -⟩ := K12.out.five; have RR := Lib.hid (RO.out.only Q12.out HG.out); have ZA := Lib.hid (ow_alloc RR.out (.cells #[.int .i64 10, .int .i64 (place T s1), .slice none 0 0, .slice (some ⟨w8.heap.size, 0, none⟩) 1 1, .slice none 0 0] 42)); have KN := Lib.hid (Blk.new w12 #[.int .i64 10, .int .i64 (place T s1), .slice none 0 0, .slice (some ⟨w8.heap.size, 0, none⟩) 1 1, .slice none 0 0] 42); have SZ := Lib.hid (show W.heap.size ≤ (w12.alloc (.cells #[.int .i64 10, .int .i64 (place T s1), .slice none 0 0, .slice (some ⟨w8.heap.size, 0, none⟩) 1 1, .slice none 0 0] 42)).heap.size from Nat.le_trans (Nat.le_trans OW.out.size Q12.out.size) (Nat.le_of_lt (al_lt w12 _))))
        |(at_builtin; refine wpList_append_stat rfl (.tmp 41) (.tmp 43) rfl W.heap.size u5 l.len ys ?_ ?_ w12.heap.size ?_ (.int .i64 10) (.int .i64 (place T s1)) (.slice none 0 0) (.slice (some ⟨w8.heap.size, 0, none⟩) 1 1) (.slice none 0 0) ?_ ?_ ?_ ?_ ?_; rfl; exact ZA.out; rfl; exact KN.out; exact Rd.one_cells _ _ RS12.out; (have := HL.out; have := P0.out.inb; have := P0.out.small; omega); exact SZ.out; intro v6 wz own6 g6 l6; have RZ := Lib.hid (OwnR.pushed RR.out RS12.out own6 g6 l6); have OG := Lib.hid (grown_only g6); have PZ := Lib.hid ((P12.out.alloc (.cells #[.int .i64 10, .int .i64 (place T s1), .slice none 0 0, .slice (some ⟨w8.heap.size, 0, none⟩) 1 1, .slice none 0 0] 42)).only OG.out (fun i e => .inl (Nat.lt_of_lt_of_le HG.out (RO.out.row.lt i e).1))); have QZ := Lib.hid ((OW.out.up Q12.out).alloc (.cells #[.int .i64 10, .int .i64 (place T s1), .slice none 0 0, .slice (some ⟨w8.heap.size, 0, none⟩) 1 1, .slice none 0 0] 42) |>.trans OG.out (fun i e => .inr (RO.out.row.lt i e).1)); clear own6 g6 l6))
       go_ret
       have er := ER.out
       rw [er]
       exact ⟨⟨_, rfl, RZ.out.reads⟩, PZ.out, QZ.out, (by have h1 := HI.out; have h2 := II.out; have := opt_i (T := T) ⟨#[59]⟩ ((fs T F).exp ((d + 1 : Nat) : Int) (up s1)).2; rw [up_i] at h2; show st.i ≤ (PrM.fail T 14 _).i; unfold PrM.fail; split <;> (show st.i ≤ (opt T _ _).i; omega))⟩
end
end Go.Proofs.Yteakhlnnepjhpaa
/- The document's parser: its tokens end with the end and with it alone; nothing is asked at no calls. -/
namespace Go.Proofs.Yteakhlnnepjhpaa
open Go.RowKit PrM
set_option linter.unusedVariables false
theorem okF_zero (g tg c : Nat) (T : List LxM.T) : OkF g tg c T 0 where
 exp := fun _ _ _ _ _ h => absurd h (by omega)
 level := fun _ _ n d _ hn _ _ h => absurd h (by omega)
 join := fun _ _ _ _ _ _ h => absurd h (by omega)
 unary := fun _ _ _ _ _ _ h => absurd h (by omega)
 post := fun _ _ _ _ _ h => absurd h (by omega)
 table := fun _ _ _ _ _ _ h => absurd h (by omega)
 body := fun _ _ _ _ _ h => absurd h (by omega)
 block := fun _ _ _ _ _ h => absurd h (by omega)
 behind := fun _ _ _ _ _ _ _ _ _ _ _ _ _ _ _ _ h => absurd h (by omega)
 stat := fun _ _ _ _ _ _ _ _ _ _ h => absurd h (by omega)
theorem tk_kinds {l : List UInt8} {t : LxM.T} {r : List UInt8} (h : LxM.tk l = some (t, r)) : t.kind ≠ 0 := by
 unfold LxM.tk at h
 cases l with
 | nil => cases h
 | cons c r0 =>
  dsimp only at h
  split at h
  ·unfold LxM.tkW at h
   split at h
   ·injection h with h; injection h with h _; subst h
    dsimp only; split <;> decide
   ·cases h
  ·split at h
   ·unfold LxM.tkN at h
    rw [Option.map_eq_some_iff] at h
    obtain ⟨x, _, he⟩ := h
    injection he with he _; subst he
    show (3 : Int) ≠ 0
    decide
   ·split at h
    ·unfold LxM.tkQ at h
     rw [Option.map_eq_some_iff] at h
     obtain ⟨x, _, he⟩ := h
     injection he with he _; subst he
     show (4 : Int) ≠ 0
     decide
    ·unfold LxM.tkS at h
     split at h
     ·injection h with h; injection h with h _; subst h
      show (5 : Int) ≠ 0
      decide
     ·split at h
      ·injection h with h; injection h with h _; subst h
       show (5 : Int) ≠ 0
       decide
      ·cases h
theorem good_cons {t : LxM.T} {b : List LxM.T} (ht : t.kind ≠ 0) (h : PrM.Good b) : PrM.Good (t :: b) := by
 refine ⟨Nat.succ_pos _, fun j hj => ?_⟩
 cases j with
 | zero =>
  have := h.1
  constructor
  ·intro e; exact absurd e ht
  ·intro e; rw [List.length_cons] at e; exact absurd e (by omega)
 | succ j =>
  have := h.2 j (by simpa using hj)
  simpa using this
theorem good_end (n : Nat) : PrM.Good [⟨0, [], 0, n⟩] := by
 refine ⟨Nat.one_pos, fun j hj => ?_⟩
 have : j = 0 := by simpa using hj
 subst this
 simp
theorem lexT_good (n : Nat) : ∀ (k : Nat) (l : List UInt8) (a : List LxM.T), l.length ≤ k → LxM.lexT n l = .ok a → PrM.Good a := by
 intro k
 induction k with
 | zero =>
  intro l a h e
  cases l with
  | nil => rw [LxM.lexT_nil] at e; injection e with e; subst e; exact good_end n
  | cons c r => simp at h
 | succ k ih =>
  intro l a h e
  cases l with
  | nil => rw [LxM.lexT_nil] at e; injection e with e; subst e; exact good_end n
  | cons c r =>
   cases ht : LxM.tk (c :: r) with
   | none => rw [LxM.lexT_bad _ _ (by simp) ht] at e; cases e
   | some q =>
    obtain ⟨t, r1⟩ := q
    rw [LxM.lexT_ok _ _ _ _ ht] at e
    unfold LxM.lexS at e
    have hl := LxM.tk_len ht
    have hs := LxM.sk_len r1 false
    cases hr : LxM.lexT n (LxM.sk false r1) with
    | bad p => rw [hr] at e; cases e
    | ok b =>
     rw [hr] at e
     injection e with e
     subst e
     exact good_cons (t := { t with at_ := n - (c :: r).length }) (show t.kind ≠ 0 from tk_kinds ht) (ih _ _ (by simp at h hl; omega) hr)
theorem lex_good {l : List UInt8} {a : List LxM.T} (h : LxM.lex l = .ok a) : PrM.Good a := lexT_good _ _ _ a (Nat.le_refl _) h
end Go.Proofs.Yteakhlnnepjhpaa
/- The document's parser: rows of expressions of one's own; append of one, of two; rows of texts. -/
namespace Go.Proofs.Yteakhlnnepjhpaa
open Go.RowKit PrM
set_option linter.unusedVariables false
/-- A row of expressions of one's own, and what it reads as. -/
structure OwnE (W : World) (w : World) (v : Value) (l : X) (ys : List Value) : Prop where
 row : w.ownsRow W.heap.size 39 7 v l.len ys
 rd : (Rd w (PO W.heap.size v) l).own 7 ys
section
variable {W w w' : World} {v v' : Value} {l : X} {ys : List Value}
theorem OwnE.only {g : Nat} (h : OwnE W w v l ys) (o : Only (fun k => k = g) w w') (hg : g < W.heap.size) : OwnE W w' v l ys :=
 ⟨ownsRow_only h.row o (fun k e => by omega), own_move h.rd o (fun k e => by omega)⟩
theorem OwnE.pushed {x : X} {v0 v1 v2 v3 v4 v5 v6 : Value} {C : Array Value} (h : OwnE W w v l ys) (hx : (Rd w (PO W.heap.size v) x).cells #[v0, v1, v2, v3, v4, v5, v6])
  (own2 : w'.ownsRow W.heap.size 39 7 v' (l.len + 1) (ys ++ (#[v0, v1, v2, v3, v4, v5, v6] : Array Value).toList)) (g2 : (w.alloc (.cells C 39)).grownBy w' v.ownBlock) (loc : v'.ownBlock = v.ownBlock ∨ v'.ownBlock = some (w.alloc (.cells C 39)).heap.size) : OwnE W w' v' (l.snoc x) (ys ++ (#[v0, v1, v2, v3, v4, v5, v6] : Array Value).toList) := by
 have b : Below w.heap.size w (w.alloc (.cells C 39)) := (Below.refl _ w).alloc (Nat.le_refl _) _
 have h2 := (Rd.move (Moves.of_below (Q := PO W.heap.size v) b fun _ hk _ => hk) l).2.2 _ _ h.rd
 exact ⟨by rw [X.len_snoc]; exact own2, row_push h2 (mv_below b hx) rfl g2 loc⟩
theorem OwnE.reads (h : OwnE W w v l ys) : Sl l.len (Rd w (Lo W) l).row 7 v :=
 Rd.of_own h.row ((Rd.move (Moves.of_below (Q := Lo W) (Below.refl _ w) fun k hk _ => hk.1) l).2.2 _ _ h.rd) rfl fun q e => (h.row.lt q e).1
theorem oe_alloc (h : OwnE W w v l ys) (o : Obj) : (w.alloc o).ownsRow W.heap.size 39 7 v l.len ys :=
 ownsRow_only h.row (Only.of_below (F := fun _ => False) ((Below.refl _ w).alloc (Nat.le_refl _) o)) (fun _ f => f.elim)
/-- A row just made of one. -/
theorem OwnE.one {x : X} {v0 v1 v2 v3 v4 v5 v6 : Value} (hw : W.heap.size ≤ w.heap.size) (hx : (Rd w (Lo W) x).cells #[v0, v1, v2, v3, v4, v5, v6]) : OwnE W (w.alloc (.cells #[v0, v1, v2, v3, v4, v5, v6] 39)) (.slice (some ⟨w.heap.size, 0, none⟩) 1 1) (X.one x) [v0, v1, v2, v3, v4, v5, v6] := by
 have b : Below w.heap.size w (w.alloc (.cells #[v0, v1, v2, v3, v4, v5, v6] 39)) := (Below.refl _ w).alloc (Nat.le_refl _) _
 refine ⟨⟨rfl, .inr ⟨w.heap.size, 1, #[v0, v1, v2, v3, v4, v5, v6], rfl, hw, Blk.new w _ _, Nat.le_refl _, (by unfold maxLen; omega), rfl, rfl⟩⟩, ?_⟩
 refine (Rd.move (Moves.of_below (P := Lo W) b fun k hk hl => ⟨hk, fun e => ?_⟩) (X.one x)).2.2 _ _ (own_one hx rfl)
 have : w.heap.size = k := Option.some.inj e
 omega
end
/-- append of one expression to a row of one's own. -/
theorem wpList_append_exp {w : World} {ops : Array Oper} {rest : List Oper} {o : Oper} {a : Act} {Q : Exit → Act → World → Prop} (hgd : o.guard = none) (s x : Operand)
  (ho : o.op = .call { callee := .builtin .append, args := #[s, x], argTypes := #[37, 37] })
  (base : Nat) (v : Value) (n : Nat) (ys : List Value) (hs : a.eval s = v) (hown : w.ownsRow base 39 7 v n ys)
  (b : Nat) (hx : a.eval x = .slice (some ⟨b, 0, none⟩) 1 1) (v0 v1 v2 v3 v4 v5 v6 : Value) (hu : Blk w b #[v0, v1, v2, v3, v4, v5, v6] 39) (h1 : ∀ u ∈ (#[v0, v1, v2, v3, v4, v5, v6] : Array Value).toList, u.oneCell' = true) (hlen : n ≤ 100000) (hb : base ≤ w.heap.size)
  (h : ∀ v' w', w'.ownsRow base 39 7 v' (n + 1) (ys ++ (#[v0, v1, v2, v3, v4, v5, v6] : Array Value).toList) → w.grownBy w' v.ownBlock → (v'.ownBlock = v.ownBlock ∨ v'.ownBlock = some w.heap.size) → wpList Try.prog ops Q rest (a.put o.dst v') w') :
  wpList Try.prog ops Q (o :: rest) a w := by
 obtain ⟨i, hi, hz, k1, k2⟩ := info_parts infoE
 refine wpList_append_row hgd s x 37 39 Try.underlying37 i hi _ hz 7 96 k1 k2 rfl (by decide) (by decide) ho base v n ys hs hown b 1 hx _ rfl (fun j u hj => ?_) h1 (by decide) hlen hb h
 have h5 : w.heap[b]? = _ := hu
 simp only [World.cell?, h5]
 simpa using hj
/-- append of two expressions to a row of one's own. -/
theorem wpList_append_exp2 {w : World} {ops : Array Oper} {rest : List Oper} {o : Oper} {a : Act} {Q : Exit → Act → World → Prop} (hgd : o.guard = none) (s x : Operand)
  (ho : o.op = .call { callee := .builtin .append, args := #[s, x], argTypes := #[37, 37] })
  (base : Nat) (v : Value) (n : Nat) (ys : List Value) (hs : a.eval s = v) (hown : w.ownsRow base 39 7 v n ys)
  (b : Nat) (hx : a.eval x = .slice (some ⟨b, 0, none⟩) 2 2) (C : Array Value) (hC : C.size = 14) (hu : Blk w b C 39) (h1 : ∀ u ∈ C.toList, u.oneCell' = true) (hlen : n ≤ 100000) (hb : base ≤ w.heap.size)
  (h : ∀ v' w', w'.ownsRow base 39 7 v' (n + 2) (ys ++ C.toList) → w.grownBy w' v.ownBlock → (v'.ownBlock = v.ownBlock ∨ v'.ownBlock = some w.heap.size) → wpList Try.prog ops Q rest (a.put o.dst v') w') :
  wpList Try.prog ops Q (o :: rest) a w := by
 obtain ⟨i, hi, hz, k1, k2⟩ := info_parts infoE
 refine wpList_append_row hgd s x 37 39 Try.underlying37 i hi _ hz 7 96 k1 k2 rfl (by decide) (by decide) ho base v n ys hs hown b 2 hx C.toList (by simp [hC]) (fun j u hj => ?_) h1 (by decide) hlen hb h
 have h5 : w.heap[b]? = _ := hu
 simp only [World.cell?, h5]
 simpa using hj
/-- A row of texts of one's own reads as them. -/
theorem strs_own {w : World} {base : Nat} {v : Value} {ps : List ByteArray} {P : Nat → Prop} (h : w.ownsRow base 9 1 v ps.length (ps.map Value.string)) (hP : ∀ q, v.ownBlock = some q → P q) : Strs w P v ps := by
 rcases h.2 with ⟨rfl, h0⟩ | ⟨q, cap, cur, rfl, hg, hb, hc, _, hs, ht⟩
 ·exact ⟨none, 0, by rw [h0], fun _ => rfl, by omega, fun i hi => absurd hi (by omega)⟩
 ·refine ⟨_, cap, rfl, (fun e => nomatch e), hc, fun i hi => ⟨_, rfl, hP q rfl, (Array.getElem?_eq_some_iff.1 hb).1, ?_⟩⟩
  have := h.cells (g := q) rfl i (.string ps[i]) (by rw [List.getElem?_map, List.getElem?_eq_getElem hi]; rfl)
  exact this
end Go.Proofs.Yteakhlnnepjhpaa
