/- Texts of one proof behind one another: PrOx, PrH. -/
import Derived.Test.YteakhlnnepjhpaaKh
import Derived.Test.YteakhlnnepjhpaaKg
/- The document's parser: rows of one's own whose elements lie anywhere in Q; boxes that are turned; opt where the answer is known. -/
namespace Go.Proofs.Yteakhlnnepjhpaa
open Go.RowKit PrM
set_option linter.unusedVariables false
/-- A row of one's own, from base on; what it reads as lies in Q, and not in the row itself. -/
structure OwnX (ty : TypeId) (z base : Nat) (Q : Nat → Prop) (w : World) (v : Value) (l : X) (ys : List Value) : Prop where
 row : w.ownsRow base ty z v l.len ys
 rd : (Rd w (fun k => Q k ∧ v.ownBlock ≠ some k) l).own z ys
section
variable {ty : TypeId} {z base g : Nat} {Q : Nat → Prop} {w w' w1 : World} {v v' : Value} {l x : X} {ys : List Value} {cs : Array Value}
theorem OwnX.nil : OwnX ty z base Q w (.slice none 0 0) .nil [] := ⟨⟨(Nat.zero_mul z).symm, .inl ⟨rfl, rfl⟩⟩, rfl⟩
theorem OwnX.only {F : Nat → Prop} (h : OwnX ty z base Q w v l ys) (o : Only F w w') (hF : ∀ k, F k → k < base ∧ ¬ Q k) : OwnX ty z base Q w' v l ys :=
 ⟨ownsRow_only h.row o (fun k f => (hF k f).1), (Rd.move (Moves.of_only o (fun k hk _ f => (hF k f).2 hk.1) fun _ hk _ => hk) l).2.2 _ _ h.rd⟩
theorem OwnX.at_g (h : OwnX ty z base Q w v l ys) (o : Only (fun b => b = g) w w') (hg : g < base) (hQ : ¬ Q g) : OwnX ty z base Q w' v l ys := h.only o (fun k e => by subst e; exact ⟨hg, hQ⟩)
theorem OwnX.below (h : OwnX ty z base Q w v l ys) (b : Below w.heap.size w w') : OwnX ty z base Q w' v l ys := h.only (Only.of_below (F := fun _ => False) b) (fun _ f => f.elim)
theorem OwnX.alloc (h : OwnX ty z base Q w v l ys) (o : Obj) : OwnX ty z base Q (w.alloc o) v l ys := h.below ((Below.refl _ w).alloc (Nat.le_refl _) o)
/-- An element's cells, read away from the row. -/
theorem OwnX.elem (h : OwnX ty z base Q w1 v l ys) (hq : ∀ k, w1.heap.size ≤ k → Q k) (rd : (Rd w (Lo w1) x).cells cs) : (Rd w (fun k => Q k ∧ v.ownBlock ≠ some k) x).cells cs :=
 (Rd.move (Moves.of_below (Below.refl _ w) fun k hk _ => ⟨hq k hk, fun e => by have := (h.row.lt k e).2; unfold Lo at hk; omega⟩) x).1 _ rd
theorem OwnX.pushed {C : Array Value} {tc : TypeId} (h : OwnX ty z base Q w v l ys) (hx : (Rd w (fun k => Q k ∧ v.ownBlock ≠ some k) x).cells cs) (hz : cs.size = z)
  (own2 : w'.ownsRow base ty z v' (l.len + 1) (ys ++ cs.toList)) (g2 : (w.alloc (.cells C tc)).grownBy w' v.ownBlock) (loc : v'.ownBlock = v.ownBlock ∨ v'.ownBlock = some (w.alloc (.cells C tc)).heap.size) : OwnX ty z base Q w' v' (l.snoc x) (ys ++ cs.toList) := by
 have b : Below w.heap.size w (w.alloc (.cells C tc)) := (Below.refl _ w).alloc (Nat.le_refl _) _
 have h2 := (Rd.move (Moves.of_below (Q := fun k => Q k ∧ v.ownBlock ≠ some k) b fun _ hk _ => hk) l).2.2 _ _ h.rd
 have hx2 := mv_below b hx
 refine ⟨by rw [X.len_snoc]; exact own2, ?_⟩
 refine (Rd.move ⟨g2.size, fun p hp hl => World.cell?_of_block (g2.block p.block hl (fun e => hp.2 e.symm)), fun k hk hl => ⟨hk.1, fun e => ?_⟩⟩ _).2.2 _ _ (Rd.own_snoc l z ys x cs h2 hx2 hz)
 rcases loc with q | q
 ·rw [q] at e; exact hk.2 e
 ·rw [q] at e; have := Option.some.inj e; omega
/-- Two at once. -/
theorem OwnX.pushed2 {C : Array Value} {tc : TypeId} {y : X} {ds : Array Value} (h : OwnX ty z base Q w v l ys) (hx : (Rd w (fun k => Q k ∧ v.ownBlock ≠ some k) x).cells cs) (hz : cs.size = z) (hy : (Rd w (fun k => Q k ∧ v.ownBlock ≠ some k) y).cells ds) (kz : ds.size = z)
  (own2 : w'.ownsRow base ty z v' (l.len + 2) (ys ++ (cs.toList ++ ds.toList))) (g2 : (w.alloc (.cells C tc)).grownBy w' v.ownBlock) (loc : v'.ownBlock = v.ownBlock ∨ v'.ownBlock = some (w.alloc (.cells C tc)).heap.size) : OwnX ty z base Q w' v' ((l.snoc x).snoc y) (ys ++ (cs.toList ++ ds.toList)) := by
 have b : Below w.heap.size w (w.alloc (.cells C tc)) := (Below.refl _ w).alloc (Nat.le_refl _) _
 have h2 := (Rd.move (Moves.of_below (Q := fun k => Q k ∧ v.ownBlock ≠ some k) b fun _ hk _ => hk) l).2.2 _ _ h.rd
 have hx2 := mv_below b hx
 have hy2 := mv_below b hy
 refine ⟨by rw [X.len_snoc, X.len_snoc]; exact own2, ?_⟩
 rw [← List.append_assoc]
 refine (Rd.move ⟨g2.size, fun p hp hl => World.cell?_of_block (g2.block p.block hl (fun e => hp.2 e.symm)), fun k hk hl => ⟨hk.1, fun e => ?_⟩⟩ _).2.2 _ _ (Rd.own_snoc _ z _ y ds (Rd.own_snoc l z ys x cs h2 hx2 hz) hy2 kz)
 rcases loc with q | q
 ·rw [q] at e; exact hk.2 e
 ·rw [q] at e; have := Option.some.inj e; omega
theorem OwnX.reads (h : OwnX ty z base Q w v l ys) (hq : ∀ k, base ≤ k → Q k) : Sl l.len (Rd w Q l).row z v :=
 Rd.of_own h.row ((Rd.move (Moves.of_below (Q := Q) (Below.refl _ w) fun k hk _ => hk.1) l).2.2 _ _ h.rd) rfl fun q e => hq q (h.row.lt q e).1
theorem OwnX.one (hw : base ≤ w.heap.size) (hz : 0 < z) (hc : cs.size = z) (hx : (Rd w Q x).cells cs) : OwnX ty z base Q (w.alloc (.cells cs ty)) (.slice (some ⟨w.heap.size, 0, none⟩) 1 1) (X.one x) cs.toList := by
 have b : Below w.heap.size w (w.alloc (.cells cs ty)) := (Below.refl _ w).alloc (Nat.le_refl _) _
 refine ⟨⟨(by rw [X.len_one, Nat.one_mul]; simpa using hc), .inr ⟨w.heap.size, 1, cs, rfl, hw, Blk.new w _ _, Nat.le_refl _, (by unfold maxLen; omega), (by simpa using hc), ?_⟩⟩, ?_⟩
 ·rw [X.len_one, Nat.one_mul]; exact List.take_of_length_le (by simpa using Nat.le_of_eq hc)
 ·refine (Rd.move (Moves.of_below b fun k hk hl => ⟨hk, fun e => ?_⟩) (X.one x)).2.2 _ _ (own_one hx hc)
  have : w.heap.size = k := Option.some.inj e
  omega
end
theorem mvQ {w w' : World} {g : Nat} {Q : Nat → Prop} {x : X} {cs : Array Value} (hQ : ¬ Q g) (o : Only (fun b => b = g) w w') (rd : (Rd w Q x).cells cs) : (Rd w' Q x).cells cs :=
 (Rd.move (Moves.of_only o (fun k hk _ e => by subst e; exact hQ hk) (fun k hk _ => hk)) x).1 _ rd
theorem wideQ {w w1 : World} {Q : Nat → Prop} {x : X} {cs : Array Value} (hs : ∀ k, w1.heap.size ≤ k → Q k) (rd : (Rd w (Lo w1) x).cells cs) : (Rd w Q x).cells cs :=
 (Rd.move (Moves.of_below (Below.refl _ w) fun k hk _ => hs k hk) x).1 _ rd
theorem oneA (w : World) (k a op : Int) {P : Nat → Prop} {x : X} {v0 v1 v2 v3 v4 v5 v6 : Value} (hx : (Rd w P x).cells #[v0, v1, v2, v3, v4, v5, v6]) (h0 : P w.heap.size) :
  (Rd (w.alloc (.cells #[v0, v1, v2, v3, v4, v5, v6] 39)) P (.e k a 0 ⟨#[]⟩ op (X.one x) .nil)).cells #[.int .i64 k, .int .i64 a, .int .i64 0, .string ⟨#[]⟩, .int .i64 op, .slice (some ⟨w.heap.size, 0, none⟩) 1 1, .slice none 0 0] :=
 ⟨_, _, rfl, sl_new (own_one hx rfl) _ _ rfl (fun _ hk _ => hk) h0, sl_nil _ _ _⟩
section
variable {W : World} {g tg c : Nat} {T : List LxM.T} {st : St}
theorem opt_t {x : ByteArray} (h : PS W g tg c T st) (hG : PrM.Good T) (hb : is T x st = true) :
  Calls Try.prog 35 #[.pointer (some ⟨g, 0, none⟩), .string x] W fun e W' => e = .returned (.bool true) ∧ PS W' g tg c T (up st) ∧ Only (fun b => b = g) W W' := by
 have k := opt_any h hG x
 unfold PrM.opt at k
 rw [hb, if_pos rfl] at k
 exact k
theorem opt_f {x : ByteArray} (h : PS W g tg c T st) (hG : PrM.Good T) (hb : is T x st = false) :
  Calls Try.prog 35 #[.pointer (some ⟨g, 0, none⟩), .string x] W fun e W' => e = .returned (.bool false) ∧ PS W' g tg c T st ∧ Only (fun b => b = g) W W' := by
 have k := opt_any h hG x
 unfold PrM.opt at k
 rw [hb, if_neg (by decide)] at k
 exact k
theorem full_i (n m : Int) (st : St) : (full T n m st).i = st.i := by
 unfold PrM.full PrM.fail
 split
 ·split <;> rfl
 ·rfl
theorem name_i (st : St) : st.i ≤ (nameS T st).i := by
 unfold nameS PrM.fail
 split
 ·split
  ·exact Nat.le_succ _
  ·exact Nat.le_refl _
 ·exact Nat.le_refl _
theorem take_i2 (x : ByteArray) (st : St) : st.i ≤ (PrM.take T x st).i := by
 unfold PrM.take PrM.fail
 split
 ·exact Nat.le_succ _
 ·split <;> exact Nat.le_refl _
end
theorem blkE3 {W : World} {b : Nat} {v0 v1 v2 v3 v4 v5 v6 : Value} {t : TypeId} (h : Blk W b #[v0, v1, v2, v3, v4, v5, v6] t) (u : Value) : Blk (W.setCell ⟨b, 3, none⟩ u) b #[v0, v1, v2, u, v4, v5, v6] t := by
 have h : W.heap[b]? = _ := h
 show (W.setCell ⟨b, 3, none⟩ u).heap[b]? = _
 simp [World.setCell, Array.getElem?_modify, h]
theorem al_below (w : World) (o : Obj) : Below w.heap.size w (w.alloc o) := (Below.refl _ w).alloc (Nat.le_refl _) o
end Go.Proofs.Yteakhlnnepjhpaa
/- The document's parser: behind something that may be indexed and called (printed by genpr7.py). -/
namespace Go.Proofs.Yteakhlnnepjhpaa
open Go.RowKit PrM
set_option linter.unusedVariables false
set_option linter.unusedSimpArgs false
/-- Blocks of P, and those from a world on, but the first of these. -/
def QB (W : World) (P : Nat → Prop) : Nat → Prop := fun k => (P k ∨ W.heap.size ≤ k) ∧ k ≠ W.heap.size ∧ k ≠ W.heap.size + 1
theorem QB.up {W w1 : World} {P : Nat → Prop} (h : W.heap.size + 1 < w1.heap.size) : ∀ k, w1.heap.size ≤ k → QB W P k := fun k hk => ⟨.inr (by omega), by omega, by omega⟩
theorem mvQ4 {w w' W : World} {P : Nat → Prop} {x : X} {cs : Array Value} (o : Only (fun k => k = W.heap.size) w w') (rd : (Rd w (QB W P) x).cells cs) : (Rd w' (QB W P) x).cells cs :=
 (Rd.move (Moves.of_only o (fun k hk _ e => hk.2.1 e) (fun k hk _ => hk)) x).1 _ rd
theorem outQ {w W : World} {P : Nat → Prop} {x : X} {cs : Array Value} (rd : (Rd w (QB W P) x).cells cs) : (Rd w (fun k => P k ∨ W.heap.size ≤ k) x).cells cs :=
 (Rd.move (Moves.of_below (Below.refl _ w) fun k hk _ => hk.1) x).1 _ rd
theorem rowQ {w W : World} {Q : Nat → Prop} {x : X} {cs : Array Value} (b : Nat) (ds : Array Value) (hb : ¬ Q b) (rd : (Rd w Q x).cells cs) : (Rd (w.setRow b ds) Q x).cells cs :=
 (Rd.move (Moves.of_only (only_row w b ds) (fun k hk _ e => hb (e ▸ hk)) (fun k hk _ => hk)) x).1 _ rd
/-- A box that is there, stored as a whole. -/
theorem row7 {w : World} {b : Nat} {old cs : Array Value} {t : TypeId} (h : Blk w b old t) : ∃ w', w' = w.setRow b cs ∧ Hid (Blk w' b cs t) ∧ Hid (Only (fun k => k = b) w w') :=
 ⟨_, rfl, blk_row h, only_row w b cs⟩
theorem sl_shape2 {n z : Nat} {r : Nat → Option Addr → Nat → Prop} {v : Value} (h : Sl n r z v) : ∃ A c, v = .slice A n c ∧ Sl n r z (.slice A n c) := by
 obtain ⟨A, c, rfl, k⟩ := h
 exact ⟨A, c, rfl, A, c, rfl, k⟩
section
variable {F g tg c : Nat} {T : List LxM.T}
set_option maxRecDepth 20000 in
set_option maxHeartbeats 16000000 in
theorem behind_any (hG : PrM.Good T) (hF : OkF g tg c T F) (W : World) (st : St) (P : Nat → Prop) (x : X) (v0 v1 v2 v3 v4 v5 v6 : Value) (d : Nat) (h : PS W g tg c T st) (rd : (Rd W P x).cells #[v0, v1, v2, v3, v4, v5, v6]) (hP : ¬ P g) (hd : d ≤ 100) (hm : 100 * (101 - d) + 4 ≤ F + 1) :
  Calls Try.prog 52 #[ptr g, .agg #[v0, v1, v2, v3, v4, v5, v6], .int .i64 (d : Int)] W fun e W' => (∃ u0 u1 u2 u3 u4 u5 u6, e = .returned (.agg #[u0, u1, u2, u3, u4, u5, u6]) ∧ (Rd W' (fun k => P k ∨ W.heap.size ≤ k) ((fs T (F + 1)).behind x d st).1).cells #[u0, u1, u2, u3, u4, u5, u6]) ∧ PS W' g tg c T ((fs T (F + 1)).behind x d st).2 ∧ Only (fun b => b = g) W W' ∧ st.i ≤ ((fs T (F + 1)).behind x d st).2.i := by
 have e1 : (fs T (F + 1)).behind x (d : Int) st = behindL T ((fs T F).exp (d : Int)) T.length T.length x st := rfl
 rw [e1]
 obtain ⟨R, eR⟩ : ∃ R, behindL T ((fs T F).exp (d : Int)) T.length T.length x st = R := ⟨_, rfl⟩
 rw [eR]
 have HR := Lib.hid eR
 have EX := Lib.hid (fun W1 st1 (h1 : PS W1 g tg c T st1) => hF.exp W1 st1 d h1 hd (by omega))
 generalize (fs T F).exp (d : Int) = ex at *
 have HG := Lib.hid h.blk.lt
 have G4 := HG
 have G6 : Hid (g < W.heap.size + 1) := Lib.hid (Nat.lt_succ_of_lt HG.out)
 have HGG := Lib.hid hG
 have OC := Lib.hid (ones7 (Rd.one_cells _ _ rd))
 have BW := Lib.hid (((Below.refl W.heap.size W).alloc (Nat.le_refl _) (.cells #[v0, v1, v2, v3, v4, v5, v6] 39)).alloc (by rw [World.size_alloc]; exact Nat.le_succ _) (.cells Z7 39))
 have P0 := Lib.hid ((h.alloc (.cells #[v0, v1, v2, v3, v4, v5, v6] 39)).alloc (.cells Z7 39))
 have O0 := Lib.hid (Only.of_below (F := fun b => b = g) BW.out)
 have K4_0 := Lib.hid (blk_al (.cells Z7 39) (Blk.new W #[v0, v1, v2, v3, v4, v5, v6] 39))
 have K6_0 : Hid (Blk ((W.alloc (.cells #[v0, v1, v2, v3, v4, v5, v6] 39)).alloc (.cells Z7 39)) (W.heap.size + 1) Z7 39) := Lib.hid (by have k := Blk.new (W.alloc (.cells #[v0, v1, v2, v3, v4, v5, v6] 39)) Z7 39; rwa [World.size_alloc] at k)
 have NQ : Hid (¬ QB W P g) := Lib.hid (fun q => q.1.elim hP (fun e => by have := HG.out; omega))
 have Rx_0 : Hid ((Rd ((W.alloc (.cells #[v0, v1, v2, v3, v4, v5, v6] 39)).alloc (.cells Z7 39)) (QB W P) x).cells #[v0, v1, v2, v3, v4, v5, v6]) := Lib.hid ((Rd.move (Moves.of_below BW.out fun k hk hl => ⟨.inl hk, Nat.ne_of_lt hl, Nat.ne_of_lt (Nat.lt_succ_of_lt hl)⟩) x).1 _ rd)
 have i0 : (0 : Int) ≤ (d : Int) := by omega
 have i1 : (d : Int) ≤ 100 := by omega
 clear hF hm e1 eR hG h rd hP hd
 go_enter Try.func52, Try.ntmps52
 go_wp2_with fail
 try simp only [Act.put]
 go_loopw [] (fun wr => ∃ (k : Nat) (s1 : St) (x : X) (y0 y1 y2 y3 y4 y5 y6 : Value), PS wr g tg c T s1 ∧ Only (fun b => b = g) W wr ∧ Blk wr W.heap.size #[y0, y1, y2, y3, y4, y5, y6] 39 ∧ Blk wr (W.heap.size + 1) Z7 39 ∧ (Rd wr (QB W P) x).cells #[y0, y1, y2, y3, y4, y5, y6] ∧ behindL T ex T.length k x s1 = R ∧ (s1.code = 0 → T.length ≤ k + s1.i) ∧ st.i ≤ s1.i) (fun wr => mB T.length g wr)
 case atStart => exact ⟨T.length, _, _, _, _, _, _, _, _, _, P0.out, O0.out, K4_0.out, K6_0.out, Rx_0.out, HR.out, fun _ => Nat.le_add_right _ _, Nat.le_refl _⟩
 case round =>
  obtain ⟨k, s1, x, y0, y1, y2, y3, y4, y5, y6, p0, ow, k4, k6, rx, hM, hk, hi⟩ := hrel
  clear P0 O0 K4_0 K6_0 Rx_0 HR
  have P0 := Lib.hid p0
  have OW := Lib.hid ow
  have O0 := Lib.hid (Only.refl (fun b => b = g) wr)
  have K4_0 := Lib.hid k4
  have K6_0 := Lib.hid k6
  have Rx_0 := Lib.hid rx
  have HM := Lib.hid hM
  have HK := Lib.hid hk
  have HI := Lib.hid hi
  have MB := Lib.hid (p0.mB (N := T.length))
  have HWR := Lib.hid p0.blk.lt
  have L4 : Hid (W.heap.size < wr.heap.size) := Lib.hid k4.lt
  clear p0 ow k4 k6 rx hM hk hi OC BW
  by_cases hc : s1.code = 0
  ·have hk := HK.out hc
   have inb := P0.out.inb
   have HC := Lib.hid hc
   obtain ⟨k, rfl⟩ : ∃ q, k = q + 1 := ⟨k - 1, by omega⟩
   have q0 : (0 : Int) ≤ (s1.i : Int) := by omega
   have q1 : (s1.i : Int) < 100000 := by have := P0.out.small; omega
   have HK1 := Lib.hid hk
   have EM := HM.out
   unfold PrM.behindL at EM
   rw [if_pos hc] at EM
   have OD := Lib.hid (fun W1 (h1 : PS W1 g tg c T s1) => opt_any h1 HGG.out ⟨#[46]⟩)
   have OB := Lib.hid (fun W1 (h1 : PS W1 g tg c T s1) => opt_any h1 HGG.out ⟨#[91]⟩)
   have OP := Lib.hid (fun W1 (h1 : PS W1 g tg c T s1) => opt_any h1 HGG.out ⟨#[40]⟩)
   unfold PrM.opt at OD OB OP
   obtain ⟨⟨d0, d1, d2, d3⟩, -⟩ := P0.out.blk.four
   rw [hc] at d2
   clear hc hk inb HM
   cases hD : is T ⟨#[46]⟩ s1 with
   | true =>
    rw [hD, if_pos rfl] at OD EM
    have UP := Lib.hid (is_next P0.out HGG.out _ hD)
    clear hD OB OP
    have EM := Lib.hid EM
    have NA := Lib.hid (fun W1 (h1 : PS W1 g tg c T (up s1)) => name_any h1 HGG.out)
    have HN := Lib.hid (name_i (T := T) (up s1))
    generalize nameT T (up s1) = nm at *
    generalize nameS T (up s1) = s2 at *
    go_wp2_with (first
     |(go_at_call 34; with_reducible refine (place_any P0.out).mono ?_; rintro e w1 ⟨rfl, sm⟩; have P1 := Lib.hid (P0.out.sm sm); have O1 := Lib.hid (O0.out.bel (sm.below _)); have K4_1 := Lib.hid (K4_0.out.sm sm); have K6_1 := Lib.hid (K6_0.out.sm sm); have Rx_1 := Lib.hid (mv_below (sm.below _) Rx_0.out); clear sm)
     |(go_at_call 35; with_reducible refine (OD.out _ P1.out).mono ?_; rintro e w2 ⟨rfl, p, o⟩; have P2 := Lib.hid (p); have O2 := Lib.hid (O1.out.up o); have K4_2 := Lib.hid (K4_1.out.only o (by have := G4.out; omega)); have K6_2 := Lib.hid (K6_1.out.only o (by have := G6.out; omega)); have Rx_2 := Lib.hid (mvQ NQ.out o Rx_1.out); clear p o)
     |(go_at_call 34; with_reducible refine (place_any P2.out).mono ?_; rintro e w3 ⟨rfl, sm⟩; have P3 := Lib.hid (P2.out.sm sm); have O3 := Lib.hid (O2.out.bel (sm.below _)); have K4_3 := Lib.hid (K4_2.out.sm sm); have K6_3 := Lib.hid (K6_2.out.sm sm); have Rx_3 := Lib.hid (mv_below (sm.below _) Rx_2.out); clear sm; have K8_4 := Lib.hid (Blk.new w3 #[.int .i64 5, .int .i64 (place T (up s1)), .int .i64 0, .string ⟨#[]⟩, .int .i64 0, .slice none 0 0, .slice none 0 0] 39); have G8 := Lib.hid (show g < w3.heap.size from Nat.lt_of_lt_of_le HWR.out O3.out.size); have P4 := Lib.hid (P3.out.alloc (.cells #[.int .i64 5, .int .i64 (place T (up s1)), .int .i64 0, .string ⟨#[]⟩, .int .i64 0, .slice none 0 0, .slice none 0 0] 39)); have O4 := Lib.hid (O3.out.alloc (.cells #[.int .i64 5, .int .i64 (place T (up s1)), .int .i64 0, .string ⟨#[]⟩, .int .i64 0, .slice none 0 0, .slice none 0 0] 39)); have K4_4 := Lib.hid (blk_al (.cells #[.int .i64 5, .int .i64 (place T (up s1)), .int .i64 0, .string ⟨#[]⟩, .int .i64 0, .slice none 0 0, .slice none 0 0] 39) K4_3.out); have K6_4 := Lib.hid (blk_al (.cells #[.int .i64 5, .int .i64 (place T (up s1)), .int .i64 0, .string ⟨#[]⟩, .int .i64 0, .slice none 0 0, .slice none 0 0] 39) K6_3.out); have Rx_4 := Lib.hid (mv_below ((Below.refl _ w3).alloc (Nat.le_refl _) (.cells #[.int .i64 5, .int .i64 (place T (up s1)), .int .i64 0, .string ⟨#[]⟩, .int .i64 0, .slice none 0 0, .slice none 0 0] 39)) Rx_3.out); have Z8 := Lib.hid ((Only.refl (fun b => b = g) w3).alloc (.cells #[.int .i64 5, .int .i64 (place T (up s1)), .int .i64 0, .string ⟨#[]⟩, .int .i64 0, .slice none 0 0, .slice none 0 0] 39)))
     |(go_at_call 49; with_reducible refine (NA.out _ P4.out).mono ?_; rintro e w5 ⟨rfl, p, o⟩; have P5 := Lib.hid (p); have O5 := Lib.hid (O4.out.up o); have K4_5 := Lib.hid (K4_4.out.only o (by have := G4.out; omega)); have K6_5 := Lib.hid (K6_4.out.only o (by have := G6.out; omega)); have K8_5 := Lib.hid (K8_4.out.only o (by have := G8.out; omega)); have Rx_5 := Lib.hid (mvQ NQ.out o Rx_4.out); have Z8a := Lib.hid (Z8.out.up o); clear p o; have Z8b := Lib.hid (Z8a.out.setCell (p := ⟨w3.heap.size, 3, none⟩) (.inr (Nat.le_refl _)) (.string nm)); have ob := only_cell w5 w3.heap.size 3 (.string nm); have N8 := Lib.hid K4_3.out.lt; have N8b := Lib.hid K6_3.out.lt; have P6 := Lib.hid (P5.out.only ob (fun i e => .inl (by have := G8.out; omega))); have O6 := Lib.hid (O5.out.setCell (p := ⟨w3.heap.size, 3, none⟩) (.inr (O3.out.size)) (.string nm)); have K4_6 := Lib.hid (K4_5.out.only ob (by have := N8.out; omega)); have K6_6 := Lib.hid (K6_5.out.only ob (by have := N8b.out; omega)); have K8_6 := Lib.hid (blkE3 K8_5.out (.string nm)); have Rx_6 := Lib.hid (mvQ NQ.out Z8b.out Rx_3.out); clear ob; obtain ⟨⟨b0, b1, b2, b3, b4, b5, b6⟩, fb0, fb1, fb2, fb3, fb4, fb5, fb6⟩ := K8_5.out.seven; obtain ⟨⟨c0, c1, c2, c3, c4, c5, c6⟩, -⟩ := K8_6.out.seven; obtain ⟨⟨a0, a1, a2, a3, a4, a5, a6⟩, fa0, fa1, fa2, fa3, fa4, fa5, fa6⟩ := K4_6.out.seven; have KZ := Lib.hid (blk_al (.cells #[y0, y1, y2, y3, y4, y5, y6, .int .i64 5, .int .i64 (place T (up s1)), .int .i64 0, .string nm, .int .i64 0, .slice none 0 0, .slice none 0 0] 39) K4_6.out))
     |(refine wpList_store_row rfl 39 (.tmp 4) (.tmp 32) rfl W.heap.size #[.int .i64 9, .int .i64 (place T s1), .int .i64 0, .string ⟨#[]⟩, .int .i64 0, .slice (some ⟨w5.heap.size, 0, none⟩) 2 2, .slice none 0 0] rfl rfl 39 _ KZ.out sizeE rfl (by simp [Value.oneCell']) ?_; obtain ⟨wz, hw, K4z, OZ⟩ := row7 (cs := #[.int .i64 9, .int .i64 (place T s1), .int .i64 0, .string ⟨#[]⟩, .int .i64 0, .slice (some ⟨w5.heap.size, 0, none⟩) 2 2, .slice none 0 0]) KZ.out; rw [← hw]; clear hw b0 b1 b2 b3 b4 b5 b6 fb0 fb1 fb2 fb3 fb4 fb5 fb6 c0 c1 c2 c3 c4 c5 c6 a0 a1 a2 a3 a4 a5 a6 fa0 fa1 fa2 fa3 fa4 fa5 fa6; try simp only [Act.put]))
    have PE := (P6.out.alloc (.cells #[y0, y1, y2, y3, y4, y5, y6, .int .i64 5, .int .i64 (place T (up s1)), .int .i64 0, .string nm, .int .i64 0, .slice none 0 0, .slice none 0 0] 39)).only OZ.out (fun i e => .inl (by subst e; exact G4.out))
    have RE := binA (w5.setCell ⟨w3.heap.size, 3, none⟩ (.string nm)) 9 (place T s1) 0 Rx_6.out (leaf_cells _ _ 5 (place T (up s1)) 0 nm 0) (QB.up K6_6.out.lt _ (Nat.le_refl _))
    rw [show (w5.setCell ⟨w3.heap.size, 3, none⟩ (.string nm)).heap.size = w5.heap.size from by simp [World.setCell]] at RE
    refine ⟨⟨k, s2, .e 9 (place T s1) 0 ⟨#[]⟩ 0 (X.two x (.e 5 (place T (up s1)) 0 nm 0 .nil .nil)) .nil, _, _, _, _, _, _, _, PE, ((OW.out.up O6.out).alloc (.cells #[y0, y1, y2, y3, y4, y5, y6, .int .i64 5, .int .i64 (place T (up s1)), .int .i64 0, .string nm, .int .i64 0, .slice none 0 0, .slice none 0 0] 39)).trans OZ.out (fun n e => .inr (by omega)), K4z.out, (blk_al _ K6_6.out).only OZ.out (by omega), mvQ4 OZ.out RE, EM.out, ?_, ?_⟩, ?_⟩
    ·intro _; have h1 := HK1.out; have h2 := HN.out; rw [up_i] at h2; omega
    ·have h1 := HI.out; have h2 := HN.out; rw [up_i] at h2; omega
    ·rw [PE.mB, MB.out, if_pos HC.out]
     have h2 := HN.out; rw [up_i] at h2
     have := P0.out.inb
     split <;> omega
   | false =>
    rw [hD, if_neg (by decide)] at OD EM
    cases hB : is T ⟨#[91]⟩ s1 with
    | true =>
     rw [hB, if_pos rfl] at OB EM
     have UP := Lib.hid (is_next P0.out HGG.out _ hB)
     clear hD hB OP
     have EM := Lib.hid EM
     go_wp2_with (first
      |(go_at_call 34; with_reducible refine (place_any P0.out).mono ?_; rintro e w1 ⟨rfl, sm⟩; have P1 := Lib.hid (P0.out.sm sm); have O1 := Lib.hid (O0.out.bel (sm.below _)); have K4_1 := Lib.hid (K4_0.out.sm sm); have K6_1 := Lib.hid (K6_0.out.sm sm); have Rx_1 := Lib.hid (mv_below (sm.below _) Rx_0.out); clear sm)
      |(go_at_call 35; with_reducible refine (OD.out _ P1.out).mono ?_; rintro e w2 ⟨rfl, p, o⟩; have P2 := Lib.hid (p); have O2 := Lib.hid (O1.out.up o); have K4_2 := Lib.hid (K4_1.out.only o (by have := G4.out; omega)); have K6_2 := Lib.hid (K6_1.out.only o (by have := G6.out; omega)); have Rx_2 := Lib.hid (mvQ NQ.out o Rx_1.out); clear p o)
      |(go_at_call 35; with_reducible refine (OB.out _ P2.out).mono ?_; rintro e w3 ⟨rfl, p, o⟩; have P3 := Lib.hid (p); have O3 := Lib.hid (O2.out.up o); have K4_3 := Lib.hid (K4_2.out.only o (by have := G4.out; omega)); have K6_3 := Lib.hid (K6_2.out.only o (by have := G6.out; omega)); have Rx_3 := Lib.hid (mvQ NQ.out o Rx_2.out); clear p o)
      |(go_at_call 37; refine (EX.out _ (up s1) P3.out).mono ?_; rintro e w4 ⟨⟨u0, u1, u2, u3, u4, u5, u6, rfl, rd⟩, p, o, ii⟩; have P4 := Lib.hid (p); have O4 := Lib.hid (O3.out.up o); have K4_4 := Lib.hid (K4_3.out.only o (by have := G4.out; omega)); have K6_4 := Lib.hid (K6_3.out.only o (by have := G6.out; omega)); have Rx_4 := Lib.hid (mvQ NQ.out o Rx_3.out); have Rq_4 := Lib.hid (wideQ (QB.up (P := P) K6_3.out.lt) rd); have Iq := Lib.hid ii; have NB4 := Lib.hid (Blk.new w4 Z7 39); clear p o rd ii)
      |(refine wpList_store_row rfl 39 (.tmp 9) (.tmp 38) rfl w4.heap.size #[u0, u1, u2, u3, u4, u5, u6] rfl rfl 39 _ NB4.out sizeE rfl (ones7 (Rd.one_cells _ _ Rq_4.out)) ?_; obtain ⟨w5, hw, bb, K9_5, ss⟩ := box7 w4 #[u0, u1, u2, u3, u4, u5, u6] Z7; rw [← hw]; clear hw NB4; have G9 := Lib.hid (show g < w4.heap.size from Nat.lt_of_lt_of_le HWR.out O4.out.size); have P5 := Lib.hid (P4.out.only (Only.of_below (F := fun _ => False) bb.out) (fun _ f => f.elim)); have O5 := Lib.hid (O4.out.bel bb.out); have K4_5 := Lib.hid (K4_4.out.below bb.out K4_4.out.lt); have K6_5 := Lib.hid (K6_4.out.below bb.out K6_4.out.lt); have Rx_5 := Lib.hid (mv_below bb.out Rx_4.out); have Rq_5 := Lib.hid (mv_below bb.out Rq_4.out); clear bb ss)
      |(go_at_call 51; with_reducible refine (take_any P5.out HGG.out ⟨#[93]⟩).mono ?_; rintro e w6 ⟨rfl, p, o⟩; have P6 := Lib.hid (p); have O6 := Lib.hid (O5.out.up o); have K4_6 := Lib.hid (K4_5.out.only o (by have := G4.out; omega)); have K6_6 := Lib.hid (K6_5.out.only o (by have := G6.out; omega)); have K9_6 := Lib.hid (K9_5.out.only o (by have := G9.out; omega)); have Rx_6 := Lib.hid (mvQ NQ.out o Rx_5.out); have Rq_6 := Lib.hid (mvQ NQ.out o Rq_5.out); clear p o; obtain ⟨⟨b0, b1, b2, b3, b4, b5, b6⟩, -⟩ := K9_6.out.seven; obtain ⟨⟨a0, a1, a2, a3, a4, a5, a6⟩, fa0, fa1, fa2, fa3, fa4, fa5, fa6⟩ := K4_6.out.seven; have KZ := Lib.hid (blk_al (.cells #[y0, y1, y2, y3, y4, y5, y6, u0, u1, u2, u3, u4, u5, u6] 39) K4_6.out))
      |(refine wpList_store_row rfl 39 (.tmp 4) (.tmp 45) rfl W.heap.size #[.int .i64 9, .int .i64 (place T s1), .int .i64 0, .string ⟨#[]⟩, .int .i64 0, .slice (some ⟨w6.heap.size, 0, none⟩) 2 2, .slice none 0 0] rfl rfl 39 _ KZ.out sizeE rfl (by simp [Value.oneCell']) ?_; obtain ⟨wz, hw, K4z, OZ⟩ := row7 (cs := #[.int .i64 9, .int .i64 (place T s1), .int .i64 0, .string ⟨#[]⟩, .int .i64 0, .slice (some ⟨w6.heap.size, 0, none⟩) 2 2, .slice none 0 0]) KZ.out; rw [← hw]; clear hw b0 b1 b2 b3 b4 b5 b6 a0 a1 a2 a3 a4 a5 a6 fa0 fa1 fa2 fa3 fa4 fa5 fa6; try simp only [Act.put]))
     have PE := (P6.out.alloc (.cells #[y0, y1, y2, y3, y4, y5, y6, u0, u1, u2, u3, u4, u5, u6] 39)).only OZ.out (fun i e => .inl (by subst e; exact G4.out))
     have RE := binA w6 9 (place T s1) 0 Rx_6.out Rq_6.out (QB.up K6_6.out.lt _ (Nat.le_refl _))
     refine ⟨⟨k, (PrM.take T ⟨#[93]⟩ (ex (up s1)).2), .e 9 (place T s1) 0 ⟨#[]⟩ 0 (X.two x (ex (up s1)).1) .nil, _, _, _, _, _, _, _, PE, ((OW.out.up O6.out).alloc (.cells #[y0, y1, y2, y3, y4, y5, y6, u0, u1, u2, u3, u4, u5, u6] 39)).trans OZ.out (fun n e => .inr (by omega)), K4z.out, (blk_al _ K6_6.out).only OZ.out (by omega), mvQ4 OZ.out RE, EM.out, ?_, ?_⟩, ?_⟩
     ·intro _; have h1 := HK1.out; have h2 := Iq.out; rw [up_i] at h2; have h3 := take_i2 (T := T) ⟨#[93]⟩ (ex (up s1)).2; omega
     ·have h1 := HI.out; have h2 := Iq.out; rw [up_i] at h2; have h3 := take_i2 (T := T) ⟨#[93]⟩ (ex (up s1)).2; omega
     ·rw [PE.mB, MB.out, if_pos HC.out]
      have h2 := Iq.out; rw [up_i] at h2; have h3 := take_i2 (T := T) ⟨#[93]⟩ (ex (up s1)).2
      have := P0.out.inb
      split <;> omega
    | false =>
     rw [hB, if_neg (by decide)] at OB EM
     cases hP : is T ⟨#[40]⟩ s1 with
     | true =>
      rw [hP, if_pos rfl] at OP EM
      have UP := Lib.hid (is_next P0.out HGG.out _ hP)
      clear hD hB hP
      cases hQ : is T ⟨#[41]⟩ (up s1) with
      | true =>
       rw [hQ, if_pos rfl] at EM
       have EM := Lib.hid EM
       have OE := Lib.hid (fun W1 (h1 : PS W1 g tg c T (up s1)) => opt_any h1 HGG.out ⟨#[41]⟩)
       unfold PrM.opt at OE
       rw [hQ] at OE
       clear hQ
       rw [if_pos rfl] at OE
       go_wp2_with (first
        |(go_at_call 34; with_reducible refine (place_any P0.out).mono ?_; rintro e w1 ⟨rfl, sm⟩; have P1 := Lib.hid (P0.out.sm sm); have O1 := Lib.hid (O0.out.bel (sm.below _)); have K4_1 := Lib.hid (K4_0.out.sm sm); have K6_1 := Lib.hid (K6_0.out.sm sm); have Rx_1 := Lib.hid (mv_below (sm.below _) Rx_0.out); clear sm)
        |(go_at_call 35; with_reducible refine (OD.out _ P1.out).mono ?_; rintro e w2 ⟨rfl, p, o⟩; have P2 := Lib.hid (p); have O2 := Lib.hid (O1.out.up o); have K4_2 := Lib.hid (K4_1.out.only o (by have := G4.out; omega)); have K6_2 := Lib.hid (K6_1.out.only o (by have := G6.out; omega)); have Rx_2 := Lib.hid (mvQ NQ.out o Rx_1.out); clear p o)
        |(go_at_call 35; with_reducible refine (OB.out _ P2.out).mono ?_; rintro e w3 ⟨rfl, p, o⟩; have P3 := Lib.hid (p); have O3 := Lib.hid (O2.out.up o); have K4_3 := Lib.hid (K4_2.out.only o (by have := G4.out; omega)); have K6_3 := Lib.hid (K6_2.out.only o (by have := G6.out; omega)); have Rx_3 := Lib.hid (mvQ NQ.out o Rx_2.out); clear p o)
        |(go_at_call 35; with_reducible refine (OP.out _ P3.out).mono ?_; rintro e w4 ⟨rfl, p, o⟩; have P4 := Lib.hid (p); have O4 := Lib.hid (O3.out.up o); have K4_4 := Lib.hid (K4_3.out.only o (by have := G4.out; omega)); have K6_4 := Lib.hid (K6_3.out.only o (by have := G6.out; omega)); have Rx_4 := Lib.hid (mvQ NQ.out o Rx_3.out); clear p o; obtain ⟨⟨a0, a1, a2, a3, a4, a5, a6⟩, fa0, fa1, fa2, fa3, fa4, fa5, fa6⟩ := K4_4.out.seven; have Rl_5 := Lib.hid (oneA w4 10 (place T s1) 0 Rx_4.out (QB.up (P := P) K6_4.out.lt _ (Nat.le_refl _))); have KL_5 := Lib.hid (Blk.new w4 #[y0, y1, y2, y3, y4, y5, y6] 39); have GL := Lib.hid (show g < w4.heap.size from Nat.lt_of_lt_of_le HWR.out O4.out.size); have P5 := Lib.hid (P4.out.alloc (.cells #[y0, y1, y2, y3, y4, y5, y6] 39)); have O5 := Lib.hid (O4.out.alloc (.cells #[y0, y1, y2, y3, y4, y5, y6] 39)); have K4_5 := Lib.hid (blk_al (.cells #[y0, y1, y2, y3, y4, y5, y6] 39) K4_4.out); have K6_5 := Lib.hid (blk_al (.cells #[y0, y1, y2, y3, y4, y5, y6] 39) K6_4.out); have Rx_5 := Lib.hid (mv_below ((Below.refl _ w4).alloc (Nat.le_refl _) (.cells #[y0, y1, y2, y3, y4, y5, y6] 39)) Rx_4.out))
        |(go_at_call 35; with_reducible refine (OE.out _ P5.out).mono ?_; rintro e w6 ⟨rfl, p, o⟩; have P6 := Lib.hid (p); have O6 := Lib.hid (O5.out.up o); have K4_6 := Lib.hid (K4_5.out.only o (by have := G4.out; omega)); have K6_6 := Lib.hid (K6_5.out.only o (by have := G6.out; omega)); have KL_6 := Lib.hid (KL_5.out.only o (by have := GL.out; omega)); have Rx_6 := Lib.hid (mvQ NQ.out o Rx_5.out); have Rl_6 := Lib.hid (mvQ NQ.out o Rl_5.out); clear p o; obtain ⟨⟨a0, a1, a2, a3, a4, a5, a6⟩, fa0, fa1, fa2, fa3, fa4, fa5, fa6⟩ := K4_6.out.seven)
        |(refine wpList_store_row rfl 39 (.tmp 4) (.tmp 77) rfl W.heap.size #[.int .i64 10, .int .i64 (place T s1), .int .i64 0, .string ⟨#[]⟩, .int .i64 0, (.slice (some ⟨w4.heap.size, 0, none⟩) 1 1), .slice none 0 0] rfl rfl 39 _ K4_6.out sizeE rfl (by simp [Value.oneCell']) ?_; obtain ⟨wz, hw, K4z, OZ⟩ := row7 (cs := #[.int .i64 10, .int .i64 (place T s1), .int .i64 0, .string ⟨#[]⟩, .int .i64 0, (.slice (some ⟨w4.heap.size, 0, none⟩) 1 1), .slice none 0 0]) K4_6.out; rw [← hw]; clear hw a0 a1 a2 a3 a4 a5 a6 fa0 fa1 fa2 fa3 fa4 fa5 fa6; try simp only [Act.put]))
       have PE := P6.out.only OZ.out (fun i e => .inl (by subst e; exact G4.out))
       refine ⟨⟨k, (up (up s1)), .e 10 (place T s1) 0 ⟨#[]⟩ 0 (X.one x) .nil, _, _, _, _, _, _, _, PE, (OW.out.up O6.out).trans OZ.out (fun n e => .inr (by omega)), K4z.out, K6_6.out.only OZ.out (by omega), mvQ4 OZ.out Rl_6.out, EM.out, ?_, ?_⟩, ?_⟩
       ·intro _; have h1 := HK1.out; have h2 : (up (up s1)).i = s1.i + 1 + 1 := rfl; omega
       ·have h1 := HI.out; have h2 : (up (up s1)).i = s1.i + 1 + 1 := rfl; omega
       ·rw [PE.mB, MB.out, if_pos HC.out]
        have h2 : (up (up s1)).i = s1.i + 1 + 1 := rfl
        have := P0.out.inb
        split <;> omega
      | false =>
       rw [hQ, if_neg (by decide)] at EM
       have EM := Lib.hid EM
       have OE := Lib.hid (fun W1 (h1 : PS W1 g tg c T (up s1)) => opt_any h1 HGG.out ⟨#[41]⟩)
       unfold PrM.opt at OE
       rw [hQ] at OE
       clear hQ
       rw [if_neg (by decide)] at OE
       obtain ⟨R2, eR2⟩ : ∃ R2, argsL T ex T.length (X.one x) (up s1) = R2 := ⟨_, rfl⟩
       have EM := EM.out
       rw [eR2] at EM
       dsimp only at EM
       have EM := Lib.hid EM
       have HR2 := Lib.hid eR2
       clear eR2
       go_wp2_with (first
        |(go_at_call 34; with_reducible refine (place_any P0.out).mono ?_; rintro e w1 ⟨rfl, sm⟩; have P1 := Lib.hid (P0.out.sm sm); have O1 := Lib.hid (O0.out.bel (sm.below _)); have K4_1 := Lib.hid (K4_0.out.sm sm); have K6_1 := Lib.hid (K6_0.out.sm sm); have Rx_1 := Lib.hid (mv_below (sm.below _) Rx_0.out); clear sm)
        |(go_at_call 35; with_reducible refine (OD.out _ P1.out).mono ?_; rintro e w2 ⟨rfl, p, o⟩; have P2 := Lib.hid (p); have O2 := Lib.hid (O1.out.up o); have K4_2 := Lib.hid (K4_1.out.only o (by have := G4.out; omega)); have K6_2 := Lib.hid (K6_1.out.only o (by have := G6.out; omega)); have Rx_2 := Lib.hid (mvQ NQ.out o Rx_1.out); clear p o)
        |(go_at_call 35; with_reducible refine (OB.out _ P2.out).mono ?_; rintro e w3 ⟨rfl, p, o⟩; have P3 := Lib.hid (p); have O3 := Lib.hid (O2.out.up o); have K4_3 := Lib.hid (K4_2.out.only o (by have := G4.out; omega)); have K6_3 := Lib.hid (K6_2.out.only o (by have := G6.out; omega)); have Rx_3 := Lib.hid (mvQ NQ.out o Rx_2.out); clear p o)
        |(go_at_call 35; with_reducible refine (OP.out _ P3.out).mono ?_; rintro e w4 ⟨rfl, p, o⟩; have P4 := Lib.hid (p); have O4 := Lib.hid (O3.out.up o); have K4_4 := Lib.hid (K4_3.out.only o (by have := G4.out; omega)); have K6_4 := Lib.hid (K6_3.out.only o (by have := G6.out; omega)); have Rx_4 := Lib.hid (mvQ NQ.out o Rx_3.out); clear p o; obtain ⟨⟨a0, a1, a2, a3, a4, a5, a6⟩, fa0, fa1, fa2, fa3, fa4, fa5, fa6⟩ := K4_4.out.seven; have GB := Lib.hid (show g < w4.heap.size from Nat.lt_of_lt_of_le HWR.out O4.out.size); have B6 := Lib.hid (show W.heap.size + 1 < w4.heap.size from K6_4.out.lt); have OBW := Lib.hid (OW.out.up O4.out); have RW5 := Lib.hid (OwnX.one (base := w4.heap.size) (ty := 39) (z := 7) (Nat.le_refl _) (by decide) rfl Rx_4.out); have HBa := Lib.hid (Nat.le_of_lt (al_lt w4 (.cells #[y0, y1, y2, y3, y4, y5, y6] 39))); have P5 := Lib.hid (P4.out.alloc (.cells #[y0, y1, y2, y3, y4, y5, y6] 39)); have O5 := Lib.hid (OBW.out.alloc (.cells #[y0, y1, y2, y3, y4, y5, y6] 39)); have K4_5 := Lib.hid (blk_al (.cells #[y0, y1, y2, y3, y4, y5, y6] 39) K4_4.out); have K6_5 := Lib.hid (blk_al (.cells #[y0, y1, y2, y3, y4, y5, y6] 39) K6_4.out))
        |(go_at_call 35; with_reducible refine (OE.out _ P5.out).mono ?_; rintro e w6 ⟨rfl, p, o⟩; have P6 := Lib.hid p; have O6 := Lib.hid (O5.out.up o); have K4_6 := Lib.hid (K4_5.out.only o (by have := G4.out; omega)); have K6_6 := Lib.hid (K6_5.out.only o (by have := G6.out; omega)); have RW6 := Lib.hid (RW5.out.at_g o GB.out NQ.out); have HBN := Lib.hid (Nat.le_trans HBa.out o.size); clear p o a0 a1 a2 a3 a4 a5 a6 fa0 fa1 fa2 fa3 fa4 fa5 fa6))
       try simp only [Act.put]
       go_loopw [10] (fun u wi => ∃ (k2 : Nat) (s2 : St) (l : X) (ys : List Value), PS wi g tg c T s2 ∧ Only (fun b => b = g) W wi ∧ Blk wi W.heap.size #[y0, y1, y2, y3, y4, y5, y6] 39 ∧ Blk wi (W.heap.size + 1) Z7 39 ∧ OwnX 39 7 w4.heap.size (QB W P) wi u l ys ∧ w4.heap.size ≤ wi.heap.size ∧ argsL T ex k2 l s2 = R2 ∧ (s2.code = 0 → T.length ≤ k2 + s2.i) ∧ s1.i < s2.i ∧ 1 ≤ l.len ∧ l.len ≤ s2.i) (fun _ wi => mB T.length g wi)
       case atStart => exact ⟨T.length, _, _, _, P6.out, O6.out, K4_6.out, K6_6.out, RW6.out, HBN.out, HR2.out, fun _ => Nat.le_add_right _ _, Nat.lt_succ_self _, Nat.le_refl _, Nat.succ_le_succ (Nat.zero_le _)⟩
       case round =>
        obtain ⟨k2, s2, l, ys, p0, oi, k4, k6, row, hbs, hM2, hk2, hi2, hl1, hl2⟩ := hrel
        obtain ⟨A, cq, rfl, -⟩ := sl_shape2 (row.reads (fun k hk => QB.up B6.out k hk))
        clear P6 O6 K4_6 K6_6 RW6 HR2 OE OD OB OP
        have P30 := Lib.hid p0
        have O30 := Lib.hid oi
        have K4_30 := Lib.hid k4
        have K6_30 := Lib.hid k6
        have RW30 := Lib.hid row
        have HB30 := Lib.hid hbs
        have HM2 := Lib.hid hM2
        have HI2 := Lib.hid hi2
        have HL1 := Lib.hid hl1
        have HL2 := Lib.hid hl2
        have MB2 := Lib.hid (p0.mB (N := T.length))
        obtain ⟨⟨d0, d1, d2, d3⟩, -⟩ := P30.out.blk.four
        by_cases hc2 : s2.code = 0
        ·rw [hc2] at d2
         have hk := hk2 hc2
         have inb := P30.out.inb
         obtain ⟨k2, rfl⟩ : ∃ q, k2 = q + 1 := ⟨k2 - 1, by omega⟩
         have EM2 := hM2
         unfold PrM.argsL at EM2
         rw [if_pos hc2] at EM2
         dsimp only at EM2
         have n1 : (1 : Int) ≤ (l.len : Int) := by omega
         have n2 : (l.len : Int) ≤ 100000 := by have := P30.out.small; omega
         have FU := Lib.hid (fun W1 (h1 : PS W1 g tg c T s2) => full_any h1 ((l.len : Int) - 1) 16)
         have EX2 := Lib.hid (fun W1 (h1 : PS W1 g tg c T (full T ((l.len : Int) - 1) 16 s2)) => EX.out W1 _ h1)
         have HF := Lib.hid (full_i (T := T) ((l.len : Int) - 1) 16 s2)
         generalize full T ((l.len : Int) - 1) 16 s2 = sf at *
         generalize ex sf = rv at *
         have OK := Lib.hid (fun W1 (h1 : PS W1 g tg c T rv.2) => opt_any h1 HGG.out ⟨#[44]⟩)
         unfold PrM.opt at OK
         have HK2 := Lib.hid hk
         have HC2 := Lib.hid hc2
         clear p0 oi k4 k6 row hbs hM2 hk2 hi2 hl1 hl2 hk inb hc2 HM2
         cases hm : is T ⟨#[44]⟩ rv.2 with
         | true =>
          rw [hm, if_pos rfl] at OK EM2
          have EM2 := Lib.hid EM2
          clear hm
          go_wp2_with (first
           |(go_at_call 60; refine (FU.out _ P30.out).mono ?_; rintro e w31 ⟨rfl, p, o⟩; have P31 := Lib.hid p; have O31 := Lib.hid (O30.out.up o); have K4_31 := Lib.hid (K4_30.out.only o (by have := G4.out; omega)); have K6_31 := Lib.hid (K6_30.out.only o (by have := G6.out; omega)); have RW31 := Lib.hid (RW30.out.at_g o GB.out NQ.out); have HB31 := Lib.hid (Nat.le_trans HB30.out o.size); clear p o)
           |(go_at_call 37; refine (EX2.out _ P31.out).mono ?_; rintro e w32 ⟨⟨u0, u1, u2, u3, u4, u5, u6, rfl, rd⟩, p, o, ii⟩; have P32 := Lib.hid p; have O32 := Lib.hid (O31.out.up o); have K4_32 := Lib.hid (K4_31.out.only o (by have := G4.out; omega)); have K6_32 := Lib.hid (K6_31.out.only o (by have := G6.out; omega)); have RW32 := Lib.hid (RW31.out.at_g o GB.out NQ.out); have HB32 := Lib.hid (Nat.le_trans HB31.out o.size); have RV := Lib.hid (OwnX.elem (w := w32) RW31.out (fun k hk => QB.up (P := P) B6.out k (Nat.le_trans HB31.out hk)) rd); have IV := Lib.hid ii; have ZA := Lib.hid (RW32.out.alloc (.cells #[u0, u1, u2, u3, u4, u5, u6] 39)).row; have KN := Lib.hid (Blk.new w32 #[u0, u1, u2, u3, u4, u5, u6] 39); have SZ := Lib.hid (show w4.heap.size ≤ (w32.alloc (.cells #[u0, u1, u2, u3, u4, u5, u6] 39)).heap.size from Nat.le_trans HB32.out (Nat.le_of_lt (al_lt w32 _))); clear p o rd ii)
           |(at_builtin; refine wpList_append_exp rfl (.tmp 64) (.tmp 68) rfl w4.heap.size (.slice A l.len cq) l.len ys ?_ ?_ w32.heap.size ?_ u0 u1 u2 u3 u4 u5 u6 ?_ ?_ ?_ ?_ ?_; rfl; exact ZA.out; rfl; exact KN.out; exact Rd.one_cells _ _ RV.out; omega; exact SZ.out; intro v6 w6 own6 g6 l6; have RW6 := Lib.hid (OwnX.pushed (cs := #[u0, u1, u2, u3, u4, u5, u6]) (C := #[u0, u1, u2, u3, u4, u5, u6]) (tc := 39) RW32.out RV.out rfl own6 g6 l6); have OG := Lib.hid (grown_only g6); have P6 := Lib.hid ((P32.out.alloc (.cells #[u0, u1, u2, u3, u4, u5, u6] 39)).only OG.out (fun i e => .inl (Nat.lt_of_lt_of_le GB.out (RW32.out.row.lt i e).1))); have O6 := Lib.hid ((O32.out.alloc (.cells #[u0, u1, u2, u3, u4, u5, u6] 39)).trans OG.out (fun i e => .inr (Nat.le_trans (Nat.le_of_lt (Nat.lt_of_succ_lt B6.out)) (RW32.out.row.lt i e).1))); have K4_6 := Lib.hid ((blk_al (.cells #[u0, u1, u2, u3, u4, u5, u6] 39) K4_32.out).only OG.out (fun e => by have := (RW32.out.row.lt _ e).1; have := B6.out; omega)); have K6_6 := Lib.hid ((blk_al (.cells #[u0, u1, u2, u3, u4, u5, u6] 39) K6_32.out).only OG.out (fun e => by have := (RW32.out.row.lt _ e).1; have := B6.out; omega)); have HB6 := Lib.hid (Nat.le_trans SZ.out OG.out.size); clear own6 g6 l6; obtain ⟨A6, c6, rfl, -⟩ := sl_shape2 (RW6.out.reads (fun k hk => QB.up B6.out k hk)))
           |(go_at_call 35; refine (OK.out _ P6.out).mono ?_; rintro e w7 ⟨rfl, p, o⟩; have P7 := Lib.hid p; have O7 := Lib.hid (O6.out.up o); have K4_7 := Lib.hid (K4_6.out.only o (by have := G4.out; omega)); have K6_7 := Lib.hid (K6_6.out.only o (by have := G6.out; omega)); have RW7 := Lib.hid (RW6.out.at_g o GB.out NQ.out); have HB7 := Lib.hid (Nat.le_trans HB6.out o.size); clear p o))
          refine ⟨⟨k2, up rv.2, l.snoc rv.1, _, P7.out, O7.out, K4_7.out, K6_7.out, RW7.out, HB7.out, EM2.out, ?_, ?_, ?_, ?_⟩, ?_⟩
          ·intro _; have h1 := HK2.out; have h2 := IV.out; have h3 := HF.out; have h4 := HI2.out; have h5 := HL1.out; have h6 := HL2.out; have h7 : (up rv.2).i = rv.2.i + 1 := rfl; omega
          ·have h1 := HK2.out; have h2 := IV.out; have h3 := HF.out; have h4 := HI2.out; have h5 := HL1.out; have h6 := HL2.out; have h7 : (up rv.2).i = rv.2.i + 1 := rfl; omega
          ·rw [X.len_snoc]; omega
          ·rw [X.len_snoc]; have h1 := HK2.out; have h2 := IV.out; have h3 := HF.out; have h4 := HI2.out; have h5 := HL1.out; have h6 := HL2.out; have h7 : (up rv.2).i = rv.2.i + 1 := rfl; omega
          ·rw [P7.out.mB, MB2.out, if_pos HC2.out]
           have h1 := HK2.out; have h2 := IV.out; have h3 := HF.out; have h4 := HI2.out; have h5 := HL1.out; have h6 := HL2.out; have h7 : (up rv.2).i = rv.2.i + 1 := rfl
           have := P30.out.inb
           split <;> omega
         | false =>
          rw [hm, if_neg (by decide)] at OK EM2
          have ER2 := Lib.hid EM2.symm
          clear hm EM2
          go_wp2_with (first
           |(go_at_call 60; refine (FU.out _ P30.out).mono ?_; rintro e w31 ⟨rfl, p, o⟩; have P31 := Lib.hid p; have O31 := Lib.hid (O30.out.up o); have K4_31 := Lib.hid (K4_30.out.only o (by have := G4.out; omega)); have K6_31 := Lib.hid (K6_30.out.only o (by have := G6.out; omega)); have RW31 := Lib.hid (RW30.out.at_g o GB.out NQ.out); have HB31 := Lib.hid (Nat.le_trans HB30.out o.size); clear p o)
           |(go_at_call 37; refine (EX2.out _ P31.out).mono ?_; rintro e w32 ⟨⟨u0, u1, u2, u3, u4, u5, u6, rfl, rd⟩, p, o, ii⟩; have P32 := Lib.hid p; have O32 := Lib.hid (O31.out.up o); have K4_32 := Lib.hid (K4_31.out.only o (by have := G4.out; omega)); have K6_32 := Lib.hid (K6_31.out.only o (by have := G6.out; omega)); have RW32 := Lib.hid (RW31.out.at_g o GB.out NQ.out); have HB32 := Lib.hid (Nat.le_trans HB31.out o.size); have RV := Lib.hid (OwnX.elem (w := w32) RW31.out (fun k hk => QB.up (P := P) B6.out k (Nat.le_trans HB31.out hk)) rd); have IV := Lib.hid ii; have ZA := Lib.hid (RW32.out.alloc (.cells #[u0, u1, u2, u3, u4, u5, u6] 39)).row; have KN := Lib.hid (Blk.new w32 #[u0, u1, u2, u3, u4, u5, u6] 39); have SZ := Lib.hid (show w4.heap.size ≤ (w32.alloc (.cells #[u0, u1, u2, u3, u4, u5, u6] 39)).heap.size from Nat.le_trans HB32.out (Nat.le_of_lt (al_lt w32 _))); clear p o rd ii)
           |(at_builtin; refine wpList_append_exp rfl (.tmp 64) (.tmp 68) rfl w4.heap.size (.slice A l.len cq) l.len ys ?_ ?_ w32.heap.size ?_ u0 u1 u2 u3 u4 u5 u6 ?_ ?_ ?_ ?_ ?_; rfl; exact ZA.out; rfl; exact KN.out; exact Rd.one_cells _ _ RV.out; omega; exact SZ.out; intro v6 w6 own6 g6 l6; have RW6 := Lib.hid (OwnX.pushed (cs := #[u0, u1, u2, u3, u4, u5, u6]) (C := #[u0, u1, u2, u3, u4, u5, u6]) (tc := 39) RW32.out RV.out rfl own6 g6 l6); have OG := Lib.hid (grown_only g6); have P6 := Lib.hid ((P32.out.alloc (.cells #[u0, u1, u2, u3, u4, u5, u6] 39)).only OG.out (fun i e => .inl (Nat.lt_of_lt_of_le GB.out (RW32.out.row.lt i e).1))); have O6 := Lib.hid ((O32.out.alloc (.cells #[u0, u1, u2, u3, u4, u5, u6] 39)).trans OG.out (fun i e => .inr (Nat.le_trans (Nat.le_of_lt (Nat.lt_of_succ_lt B6.out)) (RW32.out.row.lt i e).1))); have K4_6 := Lib.hid ((blk_al (.cells #[u0, u1, u2, u3, u4, u5, u6] 39) K4_32.out).only OG.out (fun e => by have := (RW32.out.row.lt _ e).1; have := B6.out; omega)); have K6_6 := Lib.hid ((blk_al (.cells #[u0, u1, u2, u3, u4, u5, u6] 39) K6_32.out).only OG.out (fun e => by have := (RW32.out.row.lt _ e).1; have := B6.out; omega)); have HB6 := Lib.hid (Nat.le_trans SZ.out OG.out.size); clear own6 g6 l6; obtain ⟨A6, c6, rfl, -⟩ := sl_shape2 (RW6.out.reads (fun k hk => QB.up B6.out k hk)))
           |(go_at_call 35; refine (OK.out _ P6.out).mono ?_; rintro e w7 ⟨rfl, p, o⟩; have P7 := Lib.hid p; have O7 := Lib.hid (O6.out.up o); have K4_7 := Lib.hid (K4_6.out.only o (by have := G4.out; omega)); have K6_7 := Lib.hid (K6_6.out.only o (by have := G6.out; omega)); have RW7 := Lib.hid (RW6.out.at_g o GB.out NQ.out); have HB7 := Lib.hid (Nat.le_trans HB6.out o.size); clear p o)
           |(go_at_call 51; refine (take_any P7.out HGG.out ⟨#[41]⟩).mono ?_; rintro e w40 ⟨rfl, p, o⟩; have P8 := Lib.hid p; have O8 := Lib.hid (O7.out.up o); have K4_8 := Lib.hid (K4_7.out.only o (by have := G4.out; omega)); have K6_8 := Lib.hid (K6_7.out.only o (by have := G6.out; omega)); have RW8 := Lib.hid (RW7.out.at_g o GB.out NQ.out); have HB8 := Lib.hid (Nat.le_trans HB7.out o.size); have P40 := P8; have O40 := O8; have K4_40 := K4_8; have K6_40 := K6_8; have RW40 := RW8; clear p o)
           |(refine wpList_store_row rfl 39 (.tmp 4) (.tmp 77) rfl W.heap.size #[.int .i64 10, .int .i64 (place T s1), .int .i64 0, .string ⟨#[]⟩, .int .i64 0, (.slice A6 (l.snoc rv.1).len c6), .slice none 0 0] rfl rfl 39 _ K4_40.out sizeE rfl (by simp [Value.oneCell']) ?_; obtain ⟨wz, hw, K4z, OZ⟩ := row7 (cs := #[.int .i64 10, .int .i64 (place T s1), .int .i64 0, .string ⟨#[]⟩, .int .i64 0, (.slice A6 (l.snoc rv.1).len c6), .slice none 0 0]) K4_40.out; rw [← hw]; clear hw ; try simp only [Act.put]))
          have EZ := EM.out
          have er2 := ER2.out
          rw [er2] at EZ
          dsimp only at EZ
          have EZ := Lib.hid EZ
          have PE := P40.out.only OZ.out (fun i e => .inl (by subst e; exact G4.out))
          refine ⟨⟨k, (PrM.take T ⟨#[41]⟩ rv.2), .e 10 (place T s1) 0 ⟨#[]⟩ 0 (l.snoc rv.1) .nil, _, _, _, _, _, _, _, PE, (O40.out).trans OZ.out (fun n e => .inr (by omega)), K4z.out, K6_40.out.only OZ.out (by omega), mvQ4 OZ.out ⟨_, _, rfl, RW40.out.reads (fun k hk => QB.up B6.out k hk), sl_nil _ _ _⟩, EZ.out, ?_, ?_⟩, ?_⟩
          ·intro _; have h1 := HK1.out; have h2 := HI2.out; have h3 := HF.out; have h4 := IV.out; have h9 := take_i2 (T := T) ⟨#[41]⟩ rv.2; omega
          ·have h1 := HI.out; have h2 := HI2.out; have h3 := HF.out; have h4 := IV.out; have h9 := take_i2 (T := T) ⟨#[41]⟩ rv.2; omega
          ·rw [PE.mB, MB.out, if_pos HC.out]
           have h2 := HI2.out; have h3 := HF.out; have h4 := IV.out; have h9 := take_i2 (T := T) ⟨#[41]⟩ rv.2
           have := P0.out.inb
           split <;> omega
        ·have hcb : (s2.code == 0) = false := by simpa using hc2
         have ER2 : Hid (R2 = (l, s2)) := Lib.hid (by
          rw [← hM2]
          cases k2 with
          | zero => rfl
          | succ k => unfold PrM.argsL; rw [if_neg hc2])
         clear p0 oi k4 k6 row hbs hM2 hk2 hi2 hl1 hl2 hc2 HM2
         go_wp2_with (first
          |(go_at_call 51; refine (take_any P30.out HGG.out ⟨#[41]⟩).mono ?_; rintro e w40 ⟨rfl, p, o⟩; have P31 := Lib.hid p; have O31 := Lib.hid (O30.out.up o); have K4_31 := Lib.hid (K4_30.out.only o (by have := G4.out; omega)); have K6_31 := Lib.hid (K6_30.out.only o (by have := G6.out; omega)); have RW31 := Lib.hid (RW30.out.at_g o GB.out NQ.out); have HB31 := Lib.hid (Nat.le_trans HB30.out o.size); have P40 := P31; have O40 := O31; have K4_40 := K4_31; have K6_40 := K6_31; have RW40 := RW31; clear p o)
          |(refine wpList_store_row rfl 39 (.tmp 4) (.tmp 77) rfl W.heap.size #[.int .i64 10, .int .i64 (place T s1), .int .i64 0, .string ⟨#[]⟩, .int .i64 0, (.slice A l.len cq), .slice none 0 0] rfl rfl 39 _ K4_40.out sizeE rfl (by simp [Value.oneCell']) ?_; obtain ⟨wz, hw, K4z, OZ⟩ := row7 (cs := #[.int .i64 10, .int .i64 (place T s1), .int .i64 0, .string ⟨#[]⟩, .int .i64 0, (.slice A l.len cq), .slice none 0 0]) K4_40.out; rw [← hw]; clear hw ; try simp only [Act.put]))
         have EZ := EM.out
         have er2 := ER2.out
         rw [er2] at EZ
         dsimp only at EZ
         have EZ := Lib.hid EZ
         have PE := P40.out.only OZ.out (fun i e => .inl (by subst e; exact G4.out))
         refine ⟨⟨k, (PrM.take T ⟨#[41]⟩ s2), .e 10 (place T s1) 0 ⟨#[]⟩ 0 l .nil, _, _, _, _, _, _, _, PE, (O40.out).trans OZ.out (fun n e => .inr (by omega)), K4z.out, K6_40.out.only OZ.out (by omega), mvQ4 OZ.out ⟨_, _, rfl, RW40.out.reads (fun k hk => QB.up B6.out k hk), sl_nil _ _ _⟩, EZ.out, ?_, ?_⟩, ?_⟩
         ·intro _; have h1 := HK1.out; have h2 := HI2.out; have h9 := take_i2 (T := T) ⟨#[41]⟩ s2; omega
         ·have h1 := HI.out; have h2 := HI2.out; have h9 := take_i2 (T := T) ⟨#[41]⟩ s2; omega
         ·rw [PE.mB, MB.out, if_pos HC.out]
          have h2 := HI2.out; have h9 := take_i2 (T := T) ⟨#[41]⟩ s2
          have := P0.out.inb
          split <;> omega
     | false =>
      rw [hP, if_neg (by decide)] at OP EM
      clear hD hB hP
      have ER := Lib.hid EM.symm
      clear EM
      go_wp2_with (first
       |(go_at_call 34; with_reducible refine (place_any P0.out).mono ?_; rintro e w1 ⟨rfl, sm⟩; have P1 := Lib.hid (P0.out.sm sm); have O1 := Lib.hid (O0.out.bel (sm.below _)); have K4_1 := Lib.hid (K4_0.out.sm sm); have K6_1 := Lib.hid (K6_0.out.sm sm); have Rx_1 := Lib.hid (mv_below (sm.below _) Rx_0.out); clear sm)
       |(go_at_call 35; with_reducible refine (OD.out _ P1.out).mono ?_; rintro e w2 ⟨rfl, p, o⟩; have P2 := Lib.hid (p); have O2 := Lib.hid (O1.out.up o); have K4_2 := Lib.hid (K4_1.out.only o (by have := G4.out; omega)); have K6_2 := Lib.hid (K6_1.out.only o (by have := G6.out; omega)); have Rx_2 := Lib.hid (mvQ NQ.out o Rx_1.out); clear p o)
       |(go_at_call 35; with_reducible refine (OB.out _ P2.out).mono ?_; rintro e w3 ⟨rfl, p, o⟩; have P3 := Lib.hid (p); have O3 := Lib.hid (O2.out.up o); have K4_3 := Lib.hid (K4_2.out.only o (by have := G4.out; omega)); have K6_3 := Lib.hid (K6_2.out.only o (by have := G6.out; omega)); have Rx_3 := Lib.hid (mvQ NQ.out o Rx_2.out); clear p o)
       |(go_at_call 35; with_reducible refine (OP.out _ P3.out).mono ?_; rintro e w4 ⟨rfl, p, o⟩; have P4 := Lib.hid (p); have O4 := Lib.hid (O3.out.up o); have K4_4 := Lib.hid (K4_3.out.only o (by have := G4.out; omega)); have K6_4 := Lib.hid (K6_3.out.only o (by have := G6.out; omega)); have Rx_4 := Lib.hid (mvQ NQ.out o Rx_3.out); clear p o; obtain ⟨⟨a0, a1, a2, a3, a4, a5, a6⟩, -⟩ := K4_4.out.seven)
       |(refine wpList_store_row rfl 39 (.tmp 6) (.tmp 18) rfl (W.heap.size + 1) #[y0, y1, y2, y3, y4, y5, y6] rfl rfl 39 _ K6_4.out sizeE rfl (ones7 (Rd.one_cells _ _ Rx_4.out)) ?_)
       |(refine wp_store_row 39 (.tmp 6) (.tmp 18) rfl (W.heap.size + 1) #[y0, y1, y2, y3, y4, y5, y6] rfl rfl 39 _ K6_4.out sizeE rfl (ones7 (Rd.one_cells _ _ Rx_4.out)) ?_))
      try simp only [Exit.inBlock, Exit.then]
      refine bodyPost_ret (res7 rfl _ _ (W.heap.size + 1) _ _ _ _ _ _ _ rfl (blk_row K6_4.out)) rfl ?_
      have er := ER.out
      rw [er]
      have oo := only_row w4 (W.heap.size + 1) #[y0, y1, y2, y3, y4, y5, y6]
      exact ⟨⟨_, _, _, _, _, _, _, rfl, outQ (W := W) (P := P) (rowQ (W := W) (W.heap.size + 1) _ (fun q : QB W P (W.heap.size + 1) => q.2.2 rfl) Rx_4.out)⟩, P4.out.only oo (fun i e => .inl (by have := G6.out; omega)), (OW.out.up O4.out).row (W.heap.size + 1) (.inr (Nat.le_succ _)) _, HI.out⟩
  ·have hcb : (s1.code == 0) = false := by simpa using hc
   have ER : Hid (R = (x, s1)) := Lib.hid (by
    rw [← HM.out]
    cases k with
    | zero => rfl
    | succ k => unfold PrM.behindL; rw [if_neg hc])
   obtain ⟨⟨d0, d1, d2, d3⟩, -⟩ := P0.out.blk.four
   clear hc
   obtain ⟨⟨a0, a1, a2, a3, a4, a5, a6⟩, -⟩ := K4_0.out.seven
   go_wp2_with (first
    |(refine wpList_store_row rfl 39 (.tmp 6) (.tmp 78) rfl (W.heap.size + 1) #[y0, y1, y2, y3, y4, y5, y6] rfl rfl 39 _ K6_0.out sizeE rfl (ones7 (Rd.one_cells _ _ Rx_0.out)) ?_)
    |(refine wp_store_row 39 (.tmp 6) (.tmp 78) rfl (W.heap.size + 1) #[y0, y1, y2, y3, y4, y5, y6] rfl rfl 39 _ K6_0.out sizeE rfl (ones7 (Rd.one_cells _ _ Rx_0.out)) ?_))
   try simp only [Exit.inBlock, Exit.then]
   refine bodyPost_ret (res7 rfl _ _ (W.heap.size + 1) _ _ _ _ _ _ _ rfl (blk_row K6_0.out)) rfl ?_
   have er := ER.out
   rw [er]
   have oo := only_row wr (W.heap.size + 1) #[y0, y1, y2, y3, y4, y5, y6]
   exact ⟨⟨_, _, _, _, _, _, _, rfl, outQ (W := W) (P := P) (rowQ (W := W) (W.heap.size + 1) _ (fun q : QB W P (W.heap.size + 1) => q.2.2 rfl) Rx_0.out)⟩, P0.out.only oo (fun i e => .inl (by have := G6.out; omega)), (OW.out.up O0.out).row (W.heap.size + 1) (.inr (Nat.le_succ _)) _, HI.out⟩
end
end Go.Proofs.Yteakhlnnepjhpaa
