/- Texts of one proof behind one another: PrD, PrL, PrN. -/
import Derived.Test.YteakhlnnepjhpaaKg
import Derived.Test.YteakhlnnepjhpaaKd
import Derived.Deep.RegionLaw
/- The document's parser: a function's parameters and block. -/
namespace Go.Proofs.Yteakhlnnepjhpaa
open Go.RowKit PrM
set_option linter.unusedVariables false
set_option linter.unusedSimpArgs false
abbrev Z2 : Array Value := #[.slice none 0 0, .slice none 0 0]
theorem Blk.pair {W : World} {b : Nat} {v0 v1 : Value} {t : TypeId} (h : Blk W b #[v0, v1] t) : (W.cell? ⟨b, 0, none⟩ = some v0 ∧ W.cell? ⟨b, 1, none⟩ = some v1) ∧ W.frozen? ⟨b, 0, none⟩ = false ∧ W.frozen? ⟨b, 1, none⟩ = false := by
 have h : W.heap[b]? = _ := h
 simp [World.cell?, World.frozen?, h]
theorem blkP0 {W : World} {b : Nat} {v0 v1 : Value} {t : TypeId} (h : Blk W b #[v0, v1] t) (u : Value) : Blk (W.setCell ⟨b, 0, none⟩ u) b #[u, v1] t := by
 have h : W.heap[b]? = _ := h
 show (W.setCell ⟨b, 0, none⟩ u).heap[b]? = _
 simp [World.setCell, Array.getElem?_modify, h]
theorem blkP1 {W : World} {b : Nat} {v0 v1 : Value} {t : TypeId} (h : Blk W b #[v0, v1] t) (u : Value) : Blk (W.setCell ⟨b, 1, none⟩ u) b #[v0, u] t := by
 have h : W.heap[b]? = _ := h
 show (W.setCell ⟨b, 1, none⟩ u).heap[b]? = _
 simp [World.setCell, Array.getElem?_modify, h]
theorem sizeF : (Try.prog.info? 36).map (·.size) = some 2 := by kernel_rfl
theorem res2 {fn : Func} {p : Tmp} (h : fn.results = #[.cell p 36]) (tmps : Array Value) (w : World) (b : Nat) (v0 v1 : Value) (hp : tmps.getD p undef = .pointer (some ⟨b, 0, none⟩)) (hb : Blk w b #[v0, v1] 36) :
  (results fn tmps).run Try.prog w = .ok (.agg #[v0, v1]) w := results_cell_row h tmps w b 36 #[v0, v1] (0, 0) _ hp hb Try.underlying36 rfl (by kernel_rfl)
theorem ones2 {v0 v1 : Value} (h0 : v0.oneCell' = true) (h1 : v1.oneCell' = true) : (#[v0, v1] : Array Value).all (·.oneCell') = true := by simp [h0, h1]
theorem strs_mv {w w' : World} {P Q : Nat → Prop} {v : Value} {l : List ByteArray} {F : Nat → Prop} (o : Only F w w') (hF : ∀ k, P k → ¬ F k) (hQ : ∀ k, P k → Q k) (h : Strs w P v l) : Strs w' Q v l := h.move (Moves.of_only o (fun k hk _ => hF k hk) (fun k hk _ => hQ k hk))
theorem sl_mv {w w' : World} {P Q : Nat → Prop} {x : X} {z : Nat} {v : Value} {F : Nat → Prop} (o : Only F w w') (hF : ∀ k, P k → ¬ F k) (hQ : ∀ k, P k → Q k) (h : Sl x.len (Rd w P x).row z v) : Sl x.len (Rd w' Q x).row z v := h.imp (Rd.move (Moves.of_only o (fun k hk _ => hF k hk) (fun k hk _ => hQ k hk)) x).2.1
theorem only_at (w : World) (b o : Nat) (u : Value) : Only (fun k => k = b) w (w.setCell ⟨b, o, none⟩ u) := (Only.refl (fun k => k = b) w).setCell (p := ⟨b, o, none⟩) (.inl rfl) u
theorem sl_one {n z : Nat} {r : Nat → Option Addr → Nat → Prop} {v : Value} (h : Sl n r z v) : v.oneCell' = true := h.oneCell
theorem strs_nil0 (w : World) (P : Nat → Prop) : Strs w P (.slice none 0 0) [] := ⟨none, 0, rfl, fun _ => rfl, Nat.le_refl _, fun i hi => absurd hi (by simp)⟩
theorem take_i0 {T : List LxM.T} (x : ByteArray) (st : St) : st.i ≤ (PrM.take T x st).i := by
 unfold PrM.take
 split
 ·exact Nat.le_succ _
 ·unfold PrM.fail; split <;> exact Nat.le_refl _
theorem sl_shape {n z : Nat} {r : Nat → Option Addr → Nat → Prop} {v : Value} (h : Sl n r z v) : ∃ A c, v = .slice A n c ∧ Sl n r z (.slice A n c) := by
 obtain ⟨A, c, rfl, k⟩ := h
 exact ⟨A, c, rfl, A, c, rfl, k⟩
section
variable {F g tg c : Nat} {T : List LxM.T}
set_option maxRecDepth 20000 in
set_option maxHeartbeats 16000000 in
/-- Without parameters. -/
theorem body_none (hG : PrM.Good T) (hF : OkF g tg c T F) (W : World) (st : St) (d : Nat) (h : PS W g tg c T st) (hd : d ≤ 100) (hm : 100 * (101 - d) + 5 ≤ F + 1) (hb : is T ⟨#[41]⟩ (PrM.take T ⟨#[40]⟩ st) = true) : Calls Try.prog 50 #[ptr g, .int .i64 (d : Int)] W (RF W g tg c T st ((fs T (F + 1)).body d st)) := by
 have BL := Lib.hid (fun W1 st1 (h1 : PS W1 g tg c T st1) => hF.block W1 st1 d h1 hd (by omega))
 have e1 : (fs T (F + 1)).body (d : Int) st = bodyS T (fs T F) d st := rfl
 rw [e1]
 unfold PrM.bodyS
 have HGG := Lib.hid hG
 have HG := Lib.hid h.blk.lt
 have P0 := Lib.hid ((h.alloc (.cells Z2 36)).alloc (.cells Z2 36))
 have O0 := Lib.hid (((Only.refl (fun b => b = g) W).alloc (.cells Z2 36)).alloc (.cells Z2 36))
 have OZ0 := Lib.hid (Only.refl (fun b => b = g) ((W.alloc (.cells Z2 36)).alloc (.cells Z2 36)))
 have HS2 : Hid (((W.alloc (.cells Z2 36)).alloc (.cells Z2 36)).heap.size = W.heap.size + 2) := Lib.hid (by rw [World.size_alloc, World.size_alloc])
 have HW0 : Hid (g < ((W.alloc (.cells Z2 36)).alloc (.cells Z2 36)).heap.size) := Lib.hid (by have := HS2.out; have := HG.out; omega)
 have K5_0 : Hid (Blk ((W.alloc (.cells Z2 36)).alloc (.cells Z2 36)) (W.heap.size + 1) Z2 36) := Lib.hid (by have k := Blk.new (W.alloc (.cells Z2 36)) Z2 36; rwa [World.size_alloc] at k)
 have K4_0 : Hid (Blk ((W.alloc (.cells Z2 36)).alloc (.cells Z2 36)) W.heap.size Z2 36) := Lib.hid ((Blk.new W Z2 36).keep ((Below.refl _ _).alloc (Nat.le_refl _) _))
 have TL := Lib.hid (fun W1 (h1 : PS W1 g tg c T st) => take_any h1 HGG.out ⟨#[40]⟩)
 have TE := Lib.hid (fun W1 st1 (h1 : PS W1 g tg c T st1) => take_any h1 HGG.out ⟨#[101, 110, 100]⟩)
 have i0 : (0 : Int) ≤ (d : Int) := by omega
 have i1 : (d : Int) ≤ 100 := by omega
 have HI := Lib.hid (take_i0 (T := T) ⟨#[40]⟩ st)
 generalize PrM.take T ⟨#[40]⟩ st = s1 at *
 have OP := Lib.hid (fun W1 (h1 : PS W1 g tg c T s1) => opt_any h1 HGG.out ⟨#[41]⟩)
 unfold PrM.opt at OP
 rw [hb, if_pos rfl] at OP
 dsimp only
 rw [hb, if_pos rfl]
 clear h hF hm e1 hd hG hb
 go_enter Try.func50, Try.ntmps50
 go_wp2_with (first
  |(go_at_call 51; refine (TL.out _ P0.out).mono ?_; rintro e w1 ⟨rfl, p, o⟩; have P1 := Lib.hid p; have O1 := Lib.hid (O0.out.up o); have OZ1 := Lib.hid (OZ0.out.up o); have K5_1 := Lib.hid (K5_0.out.only o (by have := HG.out; omega)); have K4_1 := Lib.hid (K4_0.out.only o (by have := HG.out; omega)); clear p o)
  |(go_at_call 35; refine (OP.out _ P1.out).mono ?_; rintro e w2 ⟨rfl, p, o⟩; have P2 := Lib.hid p; have O2 := Lib.hid (O1.out.up o); have OZ2 := Lib.hid (OZ1.out.up o); have K5_2 := Lib.hid (K5_1.out.only o (by have := HG.out; omega)); have K4_2 := Lib.hid (K4_1.out.only o (by have := HG.out; omega)); clear p o; have ST2 := Lib.hid (strs_nil0 w2 (Lo ((W.alloc (.cells Z2 36)).alloc (.cells Z2 36)))))
  |(go_at_call 16; refine (BL.out _ _ P2.out).mono ?_; rintro e w3 ⟨⟨v, rfl, sl⟩, p, o, ii⟩; obtain ⟨A, cq, rfl, sl⟩ := sl_shape sl; have PX := Lib.hid p; have OX := Lib.hid (O2.out.up o); have K5X := Lib.hid (K5_2.out.only o (by have := HG.out; omega)); have K4X := Lib.hid (K4_2.out.only o (by have := HG.out; omega)); have STX := Lib.hid (strs_mv (Q := Lo ((W.alloc (.cells Z2 36)).alloc (.cells Z2 36))) o (fun k hk e => by have := HW0.out; unfold Lo at hk; omega) (fun _ hk => hk) ST2.out); have LW := Lib.hid (show ((W.alloc (.cells Z2 36)).alloc (.cells Z2 36)).heap.size ≤ w2.heap.size from OZ2.out.size); have SLX := Lib.hid (sl_mv (Q := Lo ((W.alloc (.cells Z2 36)).alloc (.cells Z2 36))) (Only.refl (fun _ => False) w3) (fun _ _ f => f) (fun k hk => by have := LW.out; unfold Lo at *; omega) sl); have II := Lib.hid ii; have oo := only_at w3 (W.heap.size + 1) 1 (.slice A ((fs T F).block (d : Int) (up s1)).1.len cq); have PY := Lib.hid (PX.out.only oo (fun i e => .inl (by have := HG.out; omega))); have OY := Lib.hid (OX.out.setCell (p := ⟨W.heap.size + 1, 1, none⟩) (.inr (Nat.le_succ _)) (.slice A ((fs T F).block (d : Int) (up s1)).1.len cq)); have K5Y := Lib.hid (blkP1 K5X.out (.slice A ((fs T F).block (d : Int) (up s1)).1.len cq)); have K4Y := Lib.hid (K4X.out.only oo (by omega)); have STY := Lib.hid (strs_mv (Q := Lo ((W.alloc (.cells Z2 36)).alloc (.cells Z2 36))) oo (fun k hk e => by have := HS2.out; unfold Lo at hk; omega) (fun _ hk => hk) STX.out); have SLY := Lib.hid (sl_mv (Q := Lo ((W.alloc (.cells Z2 36)).alloc (.cells Z2 36))) oo (fun k hk e => by have := HS2.out; unfold Lo at hk; omega) (fun _ hk => hk) SLX.out); clear p o sl ii oo; obtain ⟨⟨a0, a1⟩, f0, f1⟩ := K5X.out.pair)
  |(go_at_call 51; refine (TE.out _ _ PY.out).mono ?_; rintro e w4 ⟨rfl, p, o⟩; have PZ := Lib.hid p; have OZ := Lib.hid (OY.out.up o); have K5Z := Lib.hid (K5Y.out.only o (by have := HG.out; omega)); have K4Z := Lib.hid (K4Y.out.only o (by have := HG.out; omega)); have STZ := Lib.hid (strs_mv (Q := Lo ((W.alloc (.cells Z2 36)).alloc (.cells Z2 36))) o (fun k hk e => by have := HW0.out; unfold Lo at hk; omega) (fun _ hk => hk) STY.out); have SLZ := Lib.hid (sl_mv (Q := Lo ((W.alloc (.cells Z2 36)).alloc (.cells Z2 36))) o (fun k hk e => by have := HW0.out; unfold Lo at hk; omega) (fun _ hk => hk) SLY.out); clear p o; obtain ⟨⟨e0, e1⟩, -⟩ := K5Z.out.pair)
  |(refine wpList_store_row rfl 36 (.tmp 4) (.tmp 39) rfl W.heap.size #[.slice none 0 0, (.slice A ((fs T F).block (d : Int) (up s1)).1.len cq)] rfl rfl 36 _ K4Z.out sizeF rfl (ones2 STZ.out.oneCell SLZ.out.oneCell) ?_)
  |(refine wp_store_row 36 (.tmp 4) (.tmp 39) rfl W.heap.size #[.slice none 0 0, (.slice A ((fs T F).block (d : Int) (up s1)).1.len cq)] rfl rfl 36 _ K4Z.out sizeF rfl (ones2 STZ.out.oneCell SLZ.out.oneCell) ?_))
 refine bodyPost_ret (res2 rfl _ _ W.heap.size (.slice none 0 0) (.slice A ((fs T F).block (d : Int) (up s1)).1.len cq) rfl (blk_row K4Z.out)) rfl ?_
 have oo := only_row w4 W.heap.size #[.slice none 0 0, (.slice A ((fs T F).block (d : Int) (up s1)).1.len cq)]
 exact ⟨⟨_, _, rfl, _, _, rfl, strs_mv oo (fun k hk e => by have := HS2.out; unfold Lo at hk; omega) (fun k hk => by have := HS2.out; unfold Lo at *; omega) STZ.out, sl_mv oo (fun k hk e => by have := HS2.out; unfold Lo at hk; omega) (fun k hk => by have := HS2.out; unfold Lo at *; omega) SLZ.out⟩, PZ.out.only oo (fun i e => .inl (by have := HG.out; omega)), OZ.out.row W.heap.size (.inr (Nat.le_refl _)) _, (by have h1 := HI.out; have h2 := II.out; have h3 := take_i0 (T := T) ⟨#[101, 110, 100]⟩ ((fs T F).block (d : Int) (up s1)).2; rw [up_i] at h2; exact Nat.le_trans (by omega) h3)⟩
end
end Go.Proofs.Yteakhlnnepjhpaa
/- The document's parser: a level that hands on, or that has failed already (printed by genpr5.py). -/
namespace Go.Proofs.Yteakhlnnepjhpaa
open Go.RowKit PrM
set_option linter.unusedVariables false
set_option linter.unusedSimpArgs false
section
variable {F g tg c : Nat} {T : List LxM.T}
set_option maxRecDepth 20000 in
set_option maxHeartbeats 8000000 in
theorem level_near (hF : OkF g tg c T F) (W : World) (st : St) (n d : Nat) (h : PS W g tg c T st) (hn : n ≤ 6) (hd : d ≤ 101) (hcd : st.code = 0 → d ≤ 100) (hm : 100 * (101 - d) + (20 - 2 * n) ≤ F + 1) (hw : st.code ≠ 0 ∨ n = 3 ∨ n = 6) : Calls Try.prog 48 #[ptr g, .int .i64 (n : Int), .int .i64 (d : Int)] W (RE W g tg c T st ((fs T (F + 1)).level n d st)) := by
 have e1 : (fs T (F + 1)).level n (d : Int) st = levelS T (fs T F) n d st := rfl
 rw [e1]
 unfold PrM.levelS
 have n0 : (0 : Int) ≤ (n : Int) := by omega
 have n1 : (n : Int) ≤ 6 := by omega
 have B0 := Lib.hid (Only.of_below (F := fun b => b = g) ((Below.refl W.heap.size W).alloc (Nat.le_refl _) (.cells Z7 39)))
 have K4_0 := Lib.hid (Blk.new W Z7 39)
 have HG := Lib.hid h.blk.lt
 have G4 := HG
 have HW0 : Hid (g < (W.alloc (.cells Z7 39)).heap.size) := Nat.lt_trans HG.out (al_lt W _)
 have P0 := Lib.hid (h.alloc (.cells Z7 39))
 have O0 := Lib.hid (Only.refl (fun b => b = g) (W.alloc (.cells Z7 39)))
 have i0 : (0 : Int) ≤ (d : Int) := by omega
 have i1 : (d : Int) ≤ 101 := by omega
 have RZ := Lib.hid (fun w => leaf_cells w (Lo (W.alloc (.cells Z7 39))) 0 0 0 ⟨#[]⟩ 0)
 obtain ⟨⟨d0, d1, d2, d3⟩, -⟩ := P0.out.blk.four
 by_cases q : st.code = 0
 ·rw [if_neg (by simpa using q)]
  have q1 : (st.code != 0) = false := by rw [q]; rfl
  by_cases n3 : n = 3
  ·rw [if_pos n3]
   have nb3 : ((n : Int) == 3) = true := by rw [n3]; rfl
   have JN := Lib.hid (fun W1 (h1 : PS W1 g tg c T st) => hF.join W1 st d h1 q (hcd q) (by omega))
   generalize (fs T F).join (d : Int) st = r at *
   clear h hF hm e1 hd hn hw q n3 hcd
   go_enter Try.func48, Try.ntmps48
   go_wp2_with (first
    |(go_at_call 58; refine (JN.out _ P0.out).mono ?_; rintro e w1 ⟨⟨v0, v1, v2, v3, v4, v5, v6, rfl, rd⟩, p, o, ii⟩; have P1 := Lib.hid (p); have O1 := Lib.hid (O0.out.up o); have K4_1 := Lib.hid (K4_0.out.only o (by have := G4.out; omega)); have Rx_1 := Lib.hid (wide_cells O0.out.size rd); have Ix := Lib.hid ii; have NB1 := Lib.hid (Blk.new w1 Z7 39); clear p o rd ii)
    |(refine wpList_store_row rfl 39 (.tmp 6) (.tmp 24) rfl W.heap.size #[v0, v1, v2, v3, v4, v5, v6] rfl rfl 39 _ K4_1.out sizeE rfl (ones7 (Rd.one_cells _ _ Rx_1.out)) ?_)
    |(refine wp_store_row 39 (.tmp 6) (.tmp 24) rfl W.heap.size #[v0, v1, v2, v3, v4, v5, v6] rfl rfl 39 _ K4_1.out sizeE rfl (ones7 (Rd.one_cells _ _ Rx_1.out)) ?_))
   try simp only [Exit.inBlock, Exit.then]
   refine bodyPost_ret (res7 rfl _ _ W.heap.size _ _ _ _ _ _ _ rfl (blk_row K4_1.out)) rfl ?_
   exact RE.end_ HG.out (Nat.le_refl _) (al_lt W (.cells Z7 39)) Rx_1.out P1.out (B0.out.up O1.out) (Ix.out)
  ·have n6 : n = 6 := by rcases hw with x | x | x; exact absurd q x; exact absurd x n3; exact x
   rw [if_neg n3, if_pos n6]
   have nb3 : ((n : Int) == 3) = false := by rw [beq_eq_false_iff_ne]; omega
   have nb6 : ((n : Int) == 6) = true := by rw [n6]; rfl
   have UN := Lib.hid (fun W1 (h1 : PS W1 g tg c T st) => hF.unary W1 st d h1 q (hcd q) (by omega))
   generalize (fs T F).unary (d : Int) st = r at *
   clear h hF hm e1 hd hn hw q n3 n6 hcd
   go_enter Try.func48, Try.ntmps48
   go_wp2_with (first
    |(go_at_call 59; refine (UN.out _ P0.out).mono ?_; rintro e w1 ⟨⟨v0, v1, v2, v3, v4, v5, v6, rfl, rd⟩, p, o, ii⟩; have P1 := Lib.hid (p); have O1 := Lib.hid (O0.out.up o); have K4_1 := Lib.hid (K4_0.out.only o (by have := G4.out; omega)); have Rx_1 := Lib.hid (wide_cells O0.out.size rd); have Ix := Lib.hid ii; have NB1 := Lib.hid (Blk.new w1 Z7 39); clear p o rd ii)
    |(refine wpList_store_row rfl 39 (.tmp 6) (.tmp 29) rfl W.heap.size #[v0, v1, v2, v3, v4, v5, v6] rfl rfl 39 _ K4_1.out sizeE rfl (ones7 (Rd.one_cells _ _ Rx_1.out)) ?_)
    |(refine wp_store_row 39 (.tmp 6) (.tmp 29) rfl W.heap.size #[v0, v1, v2, v3, v4, v5, v6] rfl rfl 39 _ K4_1.out sizeE rfl (ones7 (Rd.one_cells _ _ Rx_1.out)) ?_))
   try simp only [Exit.inBlock, Exit.then]
   refine bodyPost_ret (res7 rfl _ _ W.heap.size _ _ _ _ _ _ _ rfl (blk_row K4_1.out)) rfl ?_
   exact RE.end_ HG.out (Nat.le_refl _) (al_lt W (.cells Z7 39)) Rx_1.out P1.out (B0.out.up O1.out) (Ix.out)
 ·rw [if_pos (by simpa using q)]
  have q1 : (st.code != 0) = true := by simpa using q
  clear h hF hm e1 hd hn hw q hcd
  go_enter Try.func48, Try.ntmps48
  go_wp2_with fail
  try simp only [Exit.inBlock, Exit.then]
  refine bodyPost_ret (res7 rfl _ _ W.heap.size _ _ _ _ _ _ _ rfl K4_0.out) rfl ?_
  exact ⟨⟨_, _, _, _, _, _, _, rfl, leaf_cells _ (Lo W) 0 0 0 ⟨#[]⟩ 0⟩, P0.out, B0.out, Nat.le_refl _⟩
end
end Go.Proofs.Yteakhlnnepjhpaa
/- The document's parser: a level's tables of signs in memory (printed by genpr6.py). -/
namespace Go.Proofs.Yteakhlnnepjhpaa
open Go.RowKit PrM
set_option linter.unusedVariables false
set_option linter.unusedSimpArgs false
/-- The world behind the tables. -/
abbrev TabW (W : World) : World := (((((((((((((W.alloc (.cells Z7 39)).alloc (.cells #[.string ⟨#[111, 114]⟩] 9)).alloc (.cells #[.string ⟨#[97, 110, 100]⟩] 9)).alloc (.cells #[.string ⟨#[61, 61]⟩, .string ⟨#[126, 61]⟩, .string ⟨#[60]⟩, .string ⟨#[60, 61]⟩, .string ⟨#[62]⟩, .string ⟨#[62, 61]⟩] 9)).alloc (.cells #[.string ⟨#[43]⟩, .string ⟨#[45]⟩] 9)).alloc (.cells #[.string ⟨#[42]⟩, .string ⟨#[47, 47]⟩, .string ⟨#[37]⟩] 9)).alloc (.cells #[.slice (some ⟨W.heap.size + 1, 0, none⟩) 1 1, .slice (some ⟨W.heap.size + 1 + 1, 0, none⟩) 1 1, .slice (some ⟨W.heap.size + 1 + 1 + 1, 0, none⟩) 6 6, .slice none 0 0, .slice (some ⟨W.heap.size + 1 + 1 + 1 + 1, 0, none⟩) 2 2, .slice (some ⟨W.heap.size + 1 + 1 + 1 + 1 + 1, 0, none⟩) 3 3] 33)).alloc (.cells #[.int .i64 0] 3)).alloc (.cells #[.int .i64 0] 3)).alloc (.cells #[.int .i64 7, .int .i64 8, .int .i64 9, .int .i64 10, .int .i64 11, .int .i64 12] 3)).alloc (.cells #[.int .i64 1, .int .i64 2] 3)).alloc (.cells #[.int .i64 3, .int .i64 4, .int .i64 5] 3)).alloc (.cells #[.slice (some ⟨W.heap.size + 1 + 1 + 1 + 1 + 1 + 1 + 1, 0, none⟩) 1 1, .slice (some ⟨W.heap.size + 1 + 1 + 1 + 1 + 1 + 1 + 1 + 1, 0, none⟩) 1 1, .slice (some ⟨W.heap.size + 1 + 1 + 1 + 1 + 1 + 1 + 1 + 1 + 1, 0, none⟩) 6 6, .slice none 0 0, .slice (some ⟨W.heap.size + 1 + 1 + 1 + 1 + 1 + 1 + 1 + 1 + 1 + 1, 0, none⟩) 2 2, .slice (some ⟨W.heap.size + 1 + 1 + 1 + 1 + 1 + 1 + 1 + 1 + 1 + 1 + 1, 0, none⟩) 3 3] 64))
theorem tab_below (W : World) : Below W.heap.size W (TabW W) := by
 exact ((((((((((((((Below.refl _ W).alloc (by exact Nat.le_refl _) _).alloc (by simp only [World.size_alloc]; omega) _).alloc (by simp only [World.size_alloc]; omega) _).alloc (by simp only [World.size_alloc]; omega) _).alloc (by simp only [World.size_alloc]; omega) _).alloc (by simp only [World.size_alloc]; omega) _).alloc (by simp only [World.size_alloc]; omega) _).alloc (by simp only [World.size_alloc]; omega) _).alloc (by simp only [World.size_alloc]; omega) _).alloc (by simp only [World.size_alloc]; omega) _).alloc (by simp only [World.size_alloc]; omega) _).alloc (by simp only [World.size_alloc]; omega) _).alloc (by simp only [World.size_alloc]; omega) _)
theorem tab_res (W : World) : Blk (TabW W) (W.heap.size) Z7 39 := by
 have k := (((((((((((((Blk.new W Z7 39).keep ((Below.refl _ _).alloc (Nat.le_refl _) (.cells #[.string ⟨#[111, 114]⟩] 9))).keep ((Below.refl _ _).alloc (Nat.le_refl _) (.cells #[.string ⟨#[97, 110, 100]⟩] 9))).keep ((Below.refl _ _).alloc (Nat.le_refl _) (.cells #[.string ⟨#[61, 61]⟩, .string ⟨#[126, 61]⟩, .string ⟨#[60]⟩, .string ⟨#[60, 61]⟩, .string ⟨#[62]⟩, .string ⟨#[62, 61]⟩] 9))).keep ((Below.refl _ _).alloc (Nat.le_refl _) (.cells #[.string ⟨#[43]⟩, .string ⟨#[45]⟩] 9))).keep ((Below.refl _ _).alloc (Nat.le_refl _) (.cells #[.string ⟨#[42]⟩, .string ⟨#[47, 47]⟩, .string ⟨#[37]⟩] 9))).keep ((Below.refl _ _).alloc (Nat.le_refl _) (.cells #[.slice (some ⟨W.heap.size + 1, 0, none⟩) 1 1, .slice (some ⟨W.heap.size + 1 + 1, 0, none⟩) 1 1, .slice (some ⟨W.heap.size + 1 + 1 + 1, 0, none⟩) 6 6, .slice none 0 0, .slice (some ⟨W.heap.size + 1 + 1 + 1 + 1, 0, none⟩) 2 2, .slice (some ⟨W.heap.size + 1 + 1 + 1 + 1 + 1, 0, none⟩) 3 3] 33))).keep ((Below.refl _ _).alloc (Nat.le_refl _) (.cells #[.int .i64 0] 3))).keep ((Below.refl _ _).alloc (Nat.le_refl _) (.cells #[.int .i64 0] 3))).keep ((Below.refl _ _).alloc (Nat.le_refl _) (.cells #[.int .i64 7, .int .i64 8, .int .i64 9, .int .i64 10, .int .i64 11, .int .i64 12] 3))).keep ((Below.refl _ _).alloc (Nat.le_refl _) (.cells #[.int .i64 1, .int .i64 2] 3))).keep ((Below.refl _ _).alloc (Nat.le_refl _) (.cells #[.int .i64 3, .int .i64 4, .int .i64 5] 3))).keep ((Below.refl _ _).alloc (Nat.le_refl _) (.cells #[.slice (some ⟨W.heap.size + 1 + 1 + 1 + 1 + 1 + 1 + 1, 0, none⟩) 1 1, .slice (some ⟨W.heap.size + 1 + 1 + 1 + 1 + 1 + 1 + 1 + 1, 0, none⟩) 1 1, .slice (some ⟨W.heap.size + 1 + 1 + 1 + 1 + 1 + 1 + 1 + 1 + 1, 0, none⟩) 6 6, .slice none 0 0, .slice (some ⟨W.heap.size + 1 + 1 + 1 + 1 + 1 + 1 + 1 + 1 + 1 + 1, 0, none⟩) 2 2, .slice (some ⟨W.heap.size + 1 + 1 + 1 + 1 + 1 + 1 + 1 + 1 + 1 + 1 + 1, 0, none⟩) 3 3] 64)))
 try simp only [World.size_alloc] at k
 exact k
theorem tab_o0 (W : World) : Blk (TabW W) (W.heap.size + 1) #[.string ⟨#[111, 114]⟩] 9 := by
 have k := ((((((((((((Blk.new (W.alloc (.cells Z7 39)) #[.string ⟨#[111, 114]⟩] 9).keep ((Below.refl _ _).alloc (Nat.le_refl _) (.cells #[.string ⟨#[97, 110, 100]⟩] 9))).keep ((Below.refl _ _).alloc (Nat.le_refl _) (.cells #[.string ⟨#[61, 61]⟩, .string ⟨#[126, 61]⟩, .string ⟨#[60]⟩, .string ⟨#[60, 61]⟩, .string ⟨#[62]⟩, .string ⟨#[62, 61]⟩] 9))).keep ((Below.refl _ _).alloc (Nat.le_refl _) (.cells #[.string ⟨#[43]⟩, .string ⟨#[45]⟩] 9))).keep ((Below.refl _ _).alloc (Nat.le_refl _) (.cells #[.string ⟨#[42]⟩, .string ⟨#[47, 47]⟩, .string ⟨#[37]⟩] 9))).keep ((Below.refl _ _).alloc (Nat.le_refl _) (.cells #[.slice (some ⟨W.heap.size + 1, 0, none⟩) 1 1, .slice (some ⟨W.heap.size + 1 + 1, 0, none⟩) 1 1, .slice (some ⟨W.heap.size + 1 + 1 + 1, 0, none⟩) 6 6, .slice none 0 0, .slice (some ⟨W.heap.size + 1 + 1 + 1 + 1, 0, none⟩) 2 2, .slice (some ⟨W.heap.size + 1 + 1 + 1 + 1 + 1, 0, none⟩) 3 3] 33))).keep ((Below.refl _ _).alloc (Nat.le_refl _) (.cells #[.int .i64 0] 3))).keep ((Below.refl _ _).alloc (Nat.le_refl _) (.cells #[.int .i64 0] 3))).keep ((Below.refl _ _).alloc (Nat.le_refl _) (.cells #[.int .i64 7, .int .i64 8, .int .i64 9, .int .i64 10, .int .i64 11, .int .i64 12] 3))).keep ((Below.refl _ _).alloc (Nat.le_refl _) (.cells #[.int .i64 1, .int .i64 2] 3))).keep ((Below.refl _ _).alloc (Nat.le_refl _) (.cells #[.int .i64 3, .int .i64 4, .int .i64 5] 3))).keep ((Below.refl _ _).alloc (Nat.le_refl _) (.cells #[.slice (some ⟨W.heap.size + 1 + 1 + 1 + 1 + 1 + 1 + 1, 0, none⟩) 1 1, .slice (some ⟨W.heap.size + 1 + 1 + 1 + 1 + 1 + 1 + 1 + 1, 0, none⟩) 1 1, .slice (some ⟨W.heap.size + 1 + 1 + 1 + 1 + 1 + 1 + 1 + 1 + 1, 0, none⟩) 6 6, .slice none 0 0, .slice (some ⟨W.heap.size + 1 + 1 + 1 + 1 + 1 + 1 + 1 + 1 + 1 + 1, 0, none⟩) 2 2, .slice (some ⟨W.heap.size + 1 + 1 + 1 + 1 + 1 + 1 + 1 + 1 + 1 + 1 + 1, 0, none⟩) 3 3] 64)))
 try simp only [World.size_alloc] at k
 exact k
theorem tab_c0 (W : World) : Blk (TabW W) (W.heap.size + 1 + 1 + 1 + 1 + 1 + 1 + 1) #[.int .i64 0] 3 := by
 have k := ((((((Blk.new (((((((W.alloc (.cells Z7 39)).alloc (.cells #[.string ⟨#[111, 114]⟩] 9)).alloc (.cells #[.string ⟨#[97, 110, 100]⟩] 9)).alloc (.cells #[.string ⟨#[61, 61]⟩, .string ⟨#[126, 61]⟩, .string ⟨#[60]⟩, .string ⟨#[60, 61]⟩, .string ⟨#[62]⟩, .string ⟨#[62, 61]⟩] 9)).alloc (.cells #[.string ⟨#[43]⟩, .string ⟨#[45]⟩] 9)).alloc (.cells #[.string ⟨#[42]⟩, .string ⟨#[47, 47]⟩, .string ⟨#[37]⟩] 9)).alloc (.cells #[.slice (some ⟨W.heap.size + 1, 0, none⟩) 1 1, .slice (some ⟨W.heap.size + 1 + 1, 0, none⟩) 1 1, .slice (some ⟨W.heap.size + 1 + 1 + 1, 0, none⟩) 6 6, .slice none 0 0, .slice (some ⟨W.heap.size + 1 + 1 + 1 + 1, 0, none⟩) 2 2, .slice (some ⟨W.heap.size + 1 + 1 + 1 + 1 + 1, 0, none⟩) 3 3] 33)) #[.int .i64 0] 3).keep ((Below.refl _ _).alloc (Nat.le_refl _) (.cells #[.int .i64 0] 3))).keep ((Below.refl _ _).alloc (Nat.le_refl _) (.cells #[.int .i64 7, .int .i64 8, .int .i64 9, .int .i64 10, .int .i64 11, .int .i64 12] 3))).keep ((Below.refl _ _).alloc (Nat.le_refl _) (.cells #[.int .i64 1, .int .i64 2] 3))).keep ((Below.refl _ _).alloc (Nat.le_refl _) (.cells #[.int .i64 3, .int .i64 4, .int .i64 5] 3))).keep ((Below.refl _ _).alloc (Nat.le_refl _) (.cells #[.slice (some ⟨W.heap.size + 1 + 1 + 1 + 1 + 1 + 1 + 1, 0, none⟩) 1 1, .slice (some ⟨W.heap.size + 1 + 1 + 1 + 1 + 1 + 1 + 1 + 1, 0, none⟩) 1 1, .slice (some ⟨W.heap.size + 1 + 1 + 1 + 1 + 1 + 1 + 1 + 1 + 1, 0, none⟩) 6 6, .slice none 0 0, .slice (some ⟨W.heap.size + 1 + 1 + 1 + 1 + 1 + 1 + 1 + 1 + 1 + 1, 0, none⟩) 2 2, .slice (some ⟨W.heap.size + 1 + 1 + 1 + 1 + 1 + 1 + 1 + 1 + 1 + 1 + 1, 0, none⟩) 3 3] 64)))
 try simp only [World.size_alloc] at k
 exact k
theorem tab_o1 (W : World) : Blk (TabW W) (W.heap.size + 1 + 1) #[.string ⟨#[97, 110, 100]⟩] 9 := by
 have k := (((((((((((Blk.new ((W.alloc (.cells Z7 39)).alloc (.cells #[.string ⟨#[111, 114]⟩] 9)) #[.string ⟨#[97, 110, 100]⟩] 9).keep ((Below.refl _ _).alloc (Nat.le_refl _) (.cells #[.string ⟨#[61, 61]⟩, .string ⟨#[126, 61]⟩, .string ⟨#[60]⟩, .string ⟨#[60, 61]⟩, .string ⟨#[62]⟩, .string ⟨#[62, 61]⟩] 9))).keep ((Below.refl _ _).alloc (Nat.le_refl _) (.cells #[.string ⟨#[43]⟩, .string ⟨#[45]⟩] 9))).keep ((Below.refl _ _).alloc (Nat.le_refl _) (.cells #[.string ⟨#[42]⟩, .string ⟨#[47, 47]⟩, .string ⟨#[37]⟩] 9))).keep ((Below.refl _ _).alloc (Nat.le_refl _) (.cells #[.slice (some ⟨W.heap.size + 1, 0, none⟩) 1 1, .slice (some ⟨W.heap.size + 1 + 1, 0, none⟩) 1 1, .slice (some ⟨W.heap.size + 1 + 1 + 1, 0, none⟩) 6 6, .slice none 0 0, .slice (some ⟨W.heap.size + 1 + 1 + 1 + 1, 0, none⟩) 2 2, .slice (some ⟨W.heap.size + 1 + 1 + 1 + 1 + 1, 0, none⟩) 3 3] 33))).keep ((Below.refl _ _).alloc (Nat.le_refl _) (.cells #[.int .i64 0] 3))).keep ((Below.refl _ _).alloc (Nat.le_refl _) (.cells #[.int .i64 0] 3))).keep ((Below.refl _ _).alloc (Nat.le_refl _) (.cells #[.int .i64 7, .int .i64 8, .int .i64 9, .int .i64 10, .int .i64 11, .int .i64 12] 3))).keep ((Below.refl _ _).alloc (Nat.le_refl _) (.cells #[.int .i64 1, .int .i64 2] 3))).keep ((Below.refl _ _).alloc (Nat.le_refl _) (.cells #[.int .i64 3, .int .i64 4, .int .i64 5] 3))).keep ((Below.refl _ _).alloc (Nat.le_refl _) (.cells #[.slice (some ⟨W.heap.size + 1 + 1 + 1 + 1 + 1 + 1 + 1, 0, none⟩) 1 1, .slice (some ⟨W.heap.size + 1 + 1 + 1 + 1 + 1 + 1 + 1 + 1, 0, none⟩) 1 1, .slice (some ⟨W.heap.size + 1 + 1 + 1 + 1 + 1 + 1 + 1 + 1 + 1, 0, none⟩) 6 6, .slice none 0 0, .slice (some ⟨W.heap.size + 1 + 1 + 1 + 1 + 1 + 1 + 1 + 1 + 1 + 1, 0, none⟩) 2 2, .slice (some ⟨W.heap.size + 1 + 1 + 1 + 1 + 1 + 1 + 1 + 1 + 1 + 1 + 1, 0, none⟩) 3 3] 64)))
 try simp only [World.size_alloc] at k
 exact k
theorem tab_c1 (W : World) : Blk (TabW W) (W.heap.size + 1 + 1 + 1 + 1 + 1 + 1 + 1 + 1) #[.int .i64 0] 3 := by
 have k := (((((Blk.new ((((((((W.alloc (.cells Z7 39)).alloc (.cells #[.string ⟨#[111, 114]⟩] 9)).alloc (.cells #[.string ⟨#[97, 110, 100]⟩] 9)).alloc (.cells #[.string ⟨#[61, 61]⟩, .string ⟨#[126, 61]⟩, .string ⟨#[60]⟩, .string ⟨#[60, 61]⟩, .string ⟨#[62]⟩, .string ⟨#[62, 61]⟩] 9)).alloc (.cells #[.string ⟨#[43]⟩, .string ⟨#[45]⟩] 9)).alloc (.cells #[.string ⟨#[42]⟩, .string ⟨#[47, 47]⟩, .string ⟨#[37]⟩] 9)).alloc (.cells #[.slice (some ⟨W.heap.size + 1, 0, none⟩) 1 1, .slice (some ⟨W.heap.size + 1 + 1, 0, none⟩) 1 1, .slice (some ⟨W.heap.size + 1 + 1 + 1, 0, none⟩) 6 6, .slice none 0 0, .slice (some ⟨W.heap.size + 1 + 1 + 1 + 1, 0, none⟩) 2 2, .slice (some ⟨W.heap.size + 1 + 1 + 1 + 1 + 1, 0, none⟩) 3 3] 33)).alloc (.cells #[.int .i64 0] 3)) #[.int .i64 0] 3).keep ((Below.refl _ _).alloc (Nat.le_refl _) (.cells #[.int .i64 7, .int .i64 8, .int .i64 9, .int .i64 10, .int .i64 11, .int .i64 12] 3))).keep ((Below.refl _ _).alloc (Nat.le_refl _) (.cells #[.int .i64 1, .int .i64 2] 3))).keep ((Below.refl _ _).alloc (Nat.le_refl _) (.cells #[.int .i64 3, .int .i64 4, .int .i64 5] 3))).keep ((Below.refl _ _).alloc (Nat.le_refl _) (.cells #[.slice (some ⟨W.heap.size + 1 + 1 + 1 + 1 + 1 + 1 + 1, 0, none⟩) 1 1, .slice (some ⟨W.heap.size + 1 + 1 + 1 + 1 + 1 + 1 + 1 + 1, 0, none⟩) 1 1, .slice (some ⟨W.heap.size + 1 + 1 + 1 + 1 + 1 + 1 + 1 + 1 + 1, 0, none⟩) 6 6, .slice none 0 0, .slice (some ⟨W.heap.size + 1 + 1 + 1 + 1 + 1 + 1 + 1 + 1 + 1 + 1, 0, none⟩) 2 2, .slice (some ⟨W.heap.size + 1 + 1 + 1 + 1 + 1 + 1 + 1 + 1 + 1 + 1 + 1, 0, none⟩) 3 3] 64)))
 try simp only [World.size_alloc] at k
 exact k
theorem tab_o2 (W : World) : Blk (TabW W) (W.heap.size + 1 + 1 + 1) #[.string ⟨#[61, 61]⟩, .string ⟨#[126, 61]⟩, .string ⟨#[60]⟩, .string ⟨#[60, 61]⟩, .string ⟨#[62]⟩, .string ⟨#[62, 61]⟩] 9 := by
 have k := ((((((((((Blk.new (((W.alloc (.cells Z7 39)).alloc (.cells #[.string ⟨#[111, 114]⟩] 9)).alloc (.cells #[.string ⟨#[97, 110, 100]⟩] 9)) #[.string ⟨#[61, 61]⟩, .string ⟨#[126, 61]⟩, .string ⟨#[60]⟩, .string ⟨#[60, 61]⟩, .string ⟨#[62]⟩, .string ⟨#[62, 61]⟩] 9).keep ((Below.refl _ _).alloc (Nat.le_refl _) (.cells #[.string ⟨#[43]⟩, .string ⟨#[45]⟩] 9))).keep ((Below.refl _ _).alloc (Nat.le_refl _) (.cells #[.string ⟨#[42]⟩, .string ⟨#[47, 47]⟩, .string ⟨#[37]⟩] 9))).keep ((Below.refl _ _).alloc (Nat.le_refl _) (.cells #[.slice (some ⟨W.heap.size + 1, 0, none⟩) 1 1, .slice (some ⟨W.heap.size + 1 + 1, 0, none⟩) 1 1, .slice (some ⟨W.heap.size + 1 + 1 + 1, 0, none⟩) 6 6, .slice none 0 0, .slice (some ⟨W.heap.size + 1 + 1 + 1 + 1, 0, none⟩) 2 2, .slice (some ⟨W.heap.size + 1 + 1 + 1 + 1 + 1, 0, none⟩) 3 3] 33))).keep ((Below.refl _ _).alloc (Nat.le_refl _) (.cells #[.int .i64 0] 3))).keep ((Below.refl _ _).alloc (Nat.le_refl _) (.cells #[.int .i64 0] 3))).keep ((Below.refl _ _).alloc (Nat.le_refl _) (.cells #[.int .i64 7, .int .i64 8, .int .i64 9, .int .i64 10, .int .i64 11, .int .i64 12] 3))).keep ((Below.refl _ _).alloc (Nat.le_refl _) (.cells #[.int .i64 1, .int .i64 2] 3))).keep ((Below.refl _ _).alloc (Nat.le_refl _) (.cells #[.int .i64 3, .int .i64 4, .int .i64 5] 3))).keep ((Below.refl _ _).alloc (Nat.le_refl _) (.cells #[.slice (some ⟨W.heap.size + 1 + 1 + 1 + 1 + 1 + 1 + 1, 0, none⟩) 1 1, .slice (some ⟨W.heap.size + 1 + 1 + 1 + 1 + 1 + 1 + 1 + 1, 0, none⟩) 1 1, .slice (some ⟨W.heap.size + 1 + 1 + 1 + 1 + 1 + 1 + 1 + 1 + 1, 0, none⟩) 6 6, .slice none 0 0, .slice (some ⟨W.heap.size + 1 + 1 + 1 + 1 + 1 + 1 + 1 + 1 + 1 + 1, 0, none⟩) 2 2, .slice (some ⟨W.heap.size + 1 + 1 + 1 + 1 + 1 + 1 + 1 + 1 + 1 + 1 + 1, 0, none⟩) 3 3] 64)))
 try simp only [World.size_alloc] at k
 exact k
theorem tab_c2 (W : World) : Blk (TabW W) (W.heap.size + 1 + 1 + 1 + 1 + 1 + 1 + 1 + 1 + 1) #[.int .i64 7, .int .i64 8, .int .i64 9, .int .i64 10, .int .i64 11, .int .i64 12] 3 := by
 have k := ((((Blk.new (((((((((W.alloc (.cells Z7 39)).alloc (.cells #[.string ⟨#[111, 114]⟩] 9)).alloc (.cells #[.string ⟨#[97, 110, 100]⟩] 9)).alloc (.cells #[.string ⟨#[61, 61]⟩, .string ⟨#[126, 61]⟩, .string ⟨#[60]⟩, .string ⟨#[60, 61]⟩, .string ⟨#[62]⟩, .string ⟨#[62, 61]⟩] 9)).alloc (.cells #[.string ⟨#[43]⟩, .string ⟨#[45]⟩] 9)).alloc (.cells #[.string ⟨#[42]⟩, .string ⟨#[47, 47]⟩, .string ⟨#[37]⟩] 9)).alloc (.cells #[.slice (some ⟨W.heap.size + 1, 0, none⟩) 1 1, .slice (some ⟨W.heap.size + 1 + 1, 0, none⟩) 1 1, .slice (some ⟨W.heap.size + 1 + 1 + 1, 0, none⟩) 6 6, .slice none 0 0, .slice (some ⟨W.heap.size + 1 + 1 + 1 + 1, 0, none⟩) 2 2, .slice (some ⟨W.heap.size + 1 + 1 + 1 + 1 + 1, 0, none⟩) 3 3] 33)).alloc (.cells #[.int .i64 0] 3)).alloc (.cells #[.int .i64 0] 3)) #[.int .i64 7, .int .i64 8, .int .i64 9, .int .i64 10, .int .i64 11, .int .i64 12] 3).keep ((Below.refl _ _).alloc (Nat.le_refl _) (.cells #[.int .i64 1, .int .i64 2] 3))).keep ((Below.refl _ _).alloc (Nat.le_refl _) (.cells #[.int .i64 3, .int .i64 4, .int .i64 5] 3))).keep ((Below.refl _ _).alloc (Nat.le_refl _) (.cells #[.slice (some ⟨W.heap.size + 1 + 1 + 1 + 1 + 1 + 1 + 1, 0, none⟩) 1 1, .slice (some ⟨W.heap.size + 1 + 1 + 1 + 1 + 1 + 1 + 1 + 1, 0, none⟩) 1 1, .slice (some ⟨W.heap.size + 1 + 1 + 1 + 1 + 1 + 1 + 1 + 1 + 1, 0, none⟩) 6 6, .slice none 0 0, .slice (some ⟨W.heap.size + 1 + 1 + 1 + 1 + 1 + 1 + 1 + 1 + 1 + 1, 0, none⟩) 2 2, .slice (some ⟨W.heap.size + 1 + 1 + 1 + 1 + 1 + 1 + 1 + 1 + 1 + 1 + 1, 0, none⟩) 3 3] 64)))
 try simp only [World.size_alloc] at k
 exact k
theorem tab_o4 (W : World) : Blk (TabW W) (W.heap.size + 1 + 1 + 1 + 1) #[.string ⟨#[43]⟩, .string ⟨#[45]⟩] 9 := by
 have k := (((((((((Blk.new ((((W.alloc (.cells Z7 39)).alloc (.cells #[.string ⟨#[111, 114]⟩] 9)).alloc (.cells #[.string ⟨#[97, 110, 100]⟩] 9)).alloc (.cells #[.string ⟨#[61, 61]⟩, .string ⟨#[126, 61]⟩, .string ⟨#[60]⟩, .string ⟨#[60, 61]⟩, .string ⟨#[62]⟩, .string ⟨#[62, 61]⟩] 9)) #[.string ⟨#[43]⟩, .string ⟨#[45]⟩] 9).keep ((Below.refl _ _).alloc (Nat.le_refl _) (.cells #[.string ⟨#[42]⟩, .string ⟨#[47, 47]⟩, .string ⟨#[37]⟩] 9))).keep ((Below.refl _ _).alloc (Nat.le_refl _) (.cells #[.slice (some ⟨W.heap.size + 1, 0, none⟩) 1 1, .slice (some ⟨W.heap.size + 1 + 1, 0, none⟩) 1 1, .slice (some ⟨W.heap.size + 1 + 1 + 1, 0, none⟩) 6 6, .slice none 0 0, .slice (some ⟨W.heap.size + 1 + 1 + 1 + 1, 0, none⟩) 2 2, .slice (some ⟨W.heap.size + 1 + 1 + 1 + 1 + 1, 0, none⟩) 3 3] 33))).keep ((Below.refl _ _).alloc (Nat.le_refl _) (.cells #[.int .i64 0] 3))).keep ((Below.refl _ _).alloc (Nat.le_refl _) (.cells #[.int .i64 0] 3))).keep ((Below.refl _ _).alloc (Nat.le_refl _) (.cells #[.int .i64 7, .int .i64 8, .int .i64 9, .int .i64 10, .int .i64 11, .int .i64 12] 3))).keep ((Below.refl _ _).alloc (Nat.le_refl _) (.cells #[.int .i64 1, .int .i64 2] 3))).keep ((Below.refl _ _).alloc (Nat.le_refl _) (.cells #[.int .i64 3, .int .i64 4, .int .i64 5] 3))).keep ((Below.refl _ _).alloc (Nat.le_refl _) (.cells #[.slice (some ⟨W.heap.size + 1 + 1 + 1 + 1 + 1 + 1 + 1, 0, none⟩) 1 1, .slice (some ⟨W.heap.size + 1 + 1 + 1 + 1 + 1 + 1 + 1 + 1, 0, none⟩) 1 1, .slice (some ⟨W.heap.size + 1 + 1 + 1 + 1 + 1 + 1 + 1 + 1 + 1, 0, none⟩) 6 6, .slice none 0 0, .slice (some ⟨W.heap.size + 1 + 1 + 1 + 1 + 1 + 1 + 1 + 1 + 1 + 1, 0, none⟩) 2 2, .slice (some ⟨W.heap.size + 1 + 1 + 1 + 1 + 1 + 1 + 1 + 1 + 1 + 1 + 1, 0, none⟩) 3 3] 64)))
 try simp only [World.size_alloc] at k
 exact k
theorem tab_c4 (W : World) : Blk (TabW W) (W.heap.size + 1 + 1 + 1 + 1 + 1 + 1 + 1 + 1 + 1 + 1) #[.int .i64 1, .int .i64 2] 3 := by
 have k := (((Blk.new ((((((((((W.alloc (.cells Z7 39)).alloc (.cells #[.string ⟨#[111, 114]⟩] 9)).alloc (.cells #[.string ⟨#[97, 110, 100]⟩] 9)).alloc (.cells #[.string ⟨#[61, 61]⟩, .string ⟨#[126, 61]⟩, .string ⟨#[60]⟩, .string ⟨#[60, 61]⟩, .string ⟨#[62]⟩, .string ⟨#[62, 61]⟩] 9)).alloc (.cells #[.string ⟨#[43]⟩, .string ⟨#[45]⟩] 9)).alloc (.cells #[.string ⟨#[42]⟩, .string ⟨#[47, 47]⟩, .string ⟨#[37]⟩] 9)).alloc (.cells #[.slice (some ⟨W.heap.size + 1, 0, none⟩) 1 1, .slice (some ⟨W.heap.size + 1 + 1, 0, none⟩) 1 1, .slice (some ⟨W.heap.size + 1 + 1 + 1, 0, none⟩) 6 6, .slice none 0 0, .slice (some ⟨W.heap.size + 1 + 1 + 1 + 1, 0, none⟩) 2 2, .slice (some ⟨W.heap.size + 1 + 1 + 1 + 1 + 1, 0, none⟩) 3 3] 33)).alloc (.cells #[.int .i64 0] 3)).alloc (.cells #[.int .i64 0] 3)).alloc (.cells #[.int .i64 7, .int .i64 8, .int .i64 9, .int .i64 10, .int .i64 11, .int .i64 12] 3)) #[.int .i64 1, .int .i64 2] 3).keep ((Below.refl _ _).alloc (Nat.le_refl _) (.cells #[.int .i64 3, .int .i64 4, .int .i64 5] 3))).keep ((Below.refl _ _).alloc (Nat.le_refl _) (.cells #[.slice (some ⟨W.heap.size + 1 + 1 + 1 + 1 + 1 + 1 + 1, 0, none⟩) 1 1, .slice (some ⟨W.heap.size + 1 + 1 + 1 + 1 + 1 + 1 + 1 + 1, 0, none⟩) 1 1, .slice (some ⟨W.heap.size + 1 + 1 + 1 + 1 + 1 + 1 + 1 + 1 + 1, 0, none⟩) 6 6, .slice none 0 0, .slice (some ⟨W.heap.size + 1 + 1 + 1 + 1 + 1 + 1 + 1 + 1 + 1 + 1, 0, none⟩) 2 2, .slice (some ⟨W.heap.size + 1 + 1 + 1 + 1 + 1 + 1 + 1 + 1 + 1 + 1 + 1, 0, none⟩) 3 3] 64)))
 try simp only [World.size_alloc] at k
 exact k
theorem tab_o5 (W : World) : Blk (TabW W) (W.heap.size + 1 + 1 + 1 + 1 + 1) #[.string ⟨#[42]⟩, .string ⟨#[47, 47]⟩, .string ⟨#[37]⟩] 9 := by
 have k := ((((((((Blk.new (((((W.alloc (.cells Z7 39)).alloc (.cells #[.string ⟨#[111, 114]⟩] 9)).alloc (.cells #[.string ⟨#[97, 110, 100]⟩] 9)).alloc (.cells #[.string ⟨#[61, 61]⟩, .string ⟨#[126, 61]⟩, .string ⟨#[60]⟩, .string ⟨#[60, 61]⟩, .string ⟨#[62]⟩, .string ⟨#[62, 61]⟩] 9)).alloc (.cells #[.string ⟨#[43]⟩, .string ⟨#[45]⟩] 9)) #[.string ⟨#[42]⟩, .string ⟨#[47, 47]⟩, .string ⟨#[37]⟩] 9).keep ((Below.refl _ _).alloc (Nat.le_refl _) (.cells #[.slice (some ⟨W.heap.size + 1, 0, none⟩) 1 1, .slice (some ⟨W.heap.size + 1 + 1, 0, none⟩) 1 1, .slice (some ⟨W.heap.size + 1 + 1 + 1, 0, none⟩) 6 6, .slice none 0 0, .slice (some ⟨W.heap.size + 1 + 1 + 1 + 1, 0, none⟩) 2 2, .slice (some ⟨W.heap.size + 1 + 1 + 1 + 1 + 1, 0, none⟩) 3 3] 33))).keep ((Below.refl _ _).alloc (Nat.le_refl _) (.cells #[.int .i64 0] 3))).keep ((Below.refl _ _).alloc (Nat.le_refl _) (.cells #[.int .i64 0] 3))).keep ((Below.refl _ _).alloc (Nat.le_refl _) (.cells #[.int .i64 7, .int .i64 8, .int .i64 9, .int .i64 10, .int .i64 11, .int .i64 12] 3))).keep ((Below.refl _ _).alloc (Nat.le_refl _) (.cells #[.int .i64 1, .int .i64 2] 3))).keep ((Below.refl _ _).alloc (Nat.le_refl _) (.cells #[.int .i64 3, .int .i64 4, .int .i64 5] 3))).keep ((Below.refl _ _).alloc (Nat.le_refl _) (.cells #[.slice (some ⟨W.heap.size + 1 + 1 + 1 + 1 + 1 + 1 + 1, 0, none⟩) 1 1, .slice (some ⟨W.heap.size + 1 + 1 + 1 + 1 + 1 + 1 + 1 + 1, 0, none⟩) 1 1, .slice (some ⟨W.heap.size + 1 + 1 + 1 + 1 + 1 + 1 + 1 + 1 + 1, 0, none⟩) 6 6, .slice none 0 0, .slice (some ⟨W.heap.size + 1 + 1 + 1 + 1 + 1 + 1 + 1 + 1 + 1 + 1, 0, none⟩) 2 2, .slice (some ⟨W.heap.size + 1 + 1 + 1 + 1 + 1 + 1 + 1 + 1 + 1 + 1 + 1, 0, none⟩) 3 3] 64)))
 try simp only [World.size_alloc] at k
 exact k
theorem tab_c5 (W : World) : Blk (TabW W) (W.heap.size + 1 + 1 + 1 + 1 + 1 + 1 + 1 + 1 + 1 + 1 + 1) #[.int .i64 3, .int .i64 4, .int .i64 5] 3 := by
 have k := ((Blk.new (((((((((((W.alloc (.cells Z7 39)).alloc (.cells #[.string ⟨#[111, 114]⟩] 9)).alloc (.cells #[.string ⟨#[97, 110, 100]⟩] 9)).alloc (.cells #[.string ⟨#[61, 61]⟩, .string ⟨#[126, 61]⟩, .string ⟨#[60]⟩, .string ⟨#[60, 61]⟩, .string ⟨#[62]⟩, .string ⟨#[62, 61]⟩] 9)).alloc (.cells #[.string ⟨#[43]⟩, .string ⟨#[45]⟩] 9)).alloc (.cells #[.string ⟨#[42]⟩, .string ⟨#[47, 47]⟩, .string ⟨#[37]⟩] 9)).alloc (.cells #[.slice (some ⟨W.heap.size + 1, 0, none⟩) 1 1, .slice (some ⟨W.heap.size + 1 + 1, 0, none⟩) 1 1, .slice (some ⟨W.heap.size + 1 + 1 + 1, 0, none⟩) 6 6, .slice none 0 0, .slice (some ⟨W.heap.size + 1 + 1 + 1 + 1, 0, none⟩) 2 2, .slice (some ⟨W.heap.size + 1 + 1 + 1 + 1 + 1, 0, none⟩) 3 3] 33)).alloc (.cells #[.int .i64 0] 3)).alloc (.cells #[.int .i64 0] 3)).alloc (.cells #[.int .i64 7, .int .i64 8, .int .i64 9, .int .i64 10, .int .i64 11, .int .i64 12] 3)).alloc (.cells #[.int .i64 1, .int .i64 2] 3)) #[.int .i64 3, .int .i64 4, .int .i64 5] 3).keep ((Below.refl _ _).alloc (Nat.le_refl _) (.cells #[.slice (some ⟨W.heap.size + 1 + 1 + 1 + 1 + 1 + 1 + 1, 0, none⟩) 1 1, .slice (some ⟨W.heap.size + 1 + 1 + 1 + 1 + 1 + 1 + 1 + 1, 0, none⟩) 1 1, .slice (some ⟨W.heap.size + 1 + 1 + 1 + 1 + 1 + 1 + 1 + 1 + 1, 0, none⟩) 6 6, .slice none 0 0, .slice (some ⟨W.heap.size + 1 + 1 + 1 + 1 + 1 + 1 + 1 + 1 + 1 + 1, 0, none⟩) 2 2, .slice (some ⟨W.heap.size + 1 + 1 + 1 + 1 + 1 + 1 + 1 + 1 + 1 + 1 + 1, 0, none⟩) 3 3] 64)))
 try simp only [World.size_alloc] at k
 exact k
theorem tab_size (W : World) : (W.alloc (.cells Z7 39)).heap.size ≤ (TabW W).heap.size := by
 simp only [World.size_alloc]; omega
/-- Blocks from a world on, but one. -/
def PA (w0 : World) (ba : Nat) : Nat → Prop := fun k => w0.heap.size ≤ k ∧ k ≠ ba
section
variable {w w' w0 w1 wt : World} {x y : X} {cs : Array Value} {ba g : Nat}
theorem mvA (o : Only (fun b => b = g) w w') (hg : g < w0.heap.size) (rd : (Rd w (PA w0 ba) x).cells cs) : (Rd w' (PA w0 ba) x).cells cs :=
 (Rd.move (Moves.of_only o (fun k hk _ e => by have := hk.1; omega) (fun k hk _ => hk)) x).1 _ rd
theorem wideA (hs : w0.heap.size ≤ wt.heap.size) (hb : ba < wt.heap.size) (rd : (Rd w (Lo wt) x).cells cs) : (Rd w (PA w0 ba) x).cells cs :=
 (Rd.move (Moves.of_below (Below.refl _ w) fun k hk _ => by unfold Lo at hk; exact ⟨by omega, by omega⟩) x).1 _ rd
theorem firstA (b : Below w1.heap.size w1 w') (h : w0.heap.size ≤ wt.heap.size) (rd : (Rd w1 (Lo wt) x).cells cs) : (Rd w' (PA w0 w1.heap.size) x).cells cs :=
 (Rd.move (Moves.of_below b fun k hk hl => by unfold Lo at hk; exact ⟨by omega, by omega⟩) x).1 _ rd
theorem loA (rd : (Rd w (PA w0 ba) x).cells cs) : (Rd w (Lo w0) x).cells cs :=
 (Rd.move (Moves.of_below (Below.refl _ w) fun k hk _ => hk.1) x).1 _ rd
theorem rowA (ds : Array Value) (rd : (Rd w (PA w0 ba) x).cells cs) : (Rd (w.setRow ba ds) (PA w0 ba) x).cells cs :=
 (Rd.move (Moves.of_only (only_row w ba ds) (fun k hk _ e => hk.2 e) (fun k hk _ => hk)) x).1 _ rd
theorem binA (w : World) (k a op : Int) {P : Nat → Prop} {x y : X} {v0 v1 v2 v3 v4 v5 v6 u0 u1 u2 u3 u4 u5 u6 : Value} (hx : (Rd w P x).cells #[v0, v1, v2, v3, v4, v5, v6]) (hy : (Rd w P y).cells #[u0, u1, u2, u3, u4, u5, u6]) (h0 : P w.heap.size) :
  (Rd (w.alloc (.cells #[v0, v1, v2, v3, v4, v5, v6, u0, u1, u2, u3, u4, u5, u6] 39)) P (.e k a 0 ⟨#[]⟩ op (X.two x y) .nil)).cells #[.int .i64 k, .int .i64 a, .int .i64 0, .string ⟨#[]⟩, .int .i64 op, .slice (some ⟨w.heap.size, 0, none⟩) 2 2, .slice none 0 0] :=
 ⟨_, _, rfl, sl_new (own_two hx hy rfl rfl) _ _ rfl (fun _ hk _ => hk) h0, sl_nil _ _ _⟩
end
theorem keep_ad {W : World} {p : Addr} {v : Value} (o : Obj) (h : W.cell? p = some v) : (W.alloc o).drew.cell? p = some v := keep_al o h
theorem blk_ad {W : World} {b : Nat} {C : Array Value} {t : TypeId} (o : Obj) (h : Blk W b C t) : Blk (W.alloc o).drew b C t := h.keep (((Below.refl _ _).alloc (Nat.le_refl _) o).drew)
theorem blk_al {W : World} {b : Nat} {C : Array Value} {t : TypeId} (o : Obj) (h : Blk W b C t) : Blk (W.alloc o) b C t := h.keep ((Below.refl _ _).alloc (Nat.le_refl _) o)
theorem mvA7 {w w' w0 : World} {ba : Nat} {x : X} {cs : Array Value} (o : Only (fun k => k = ba) w w') (rd : (Rd w (PA w0 ba) x).cells cs) : (Rd w' (PA w0 ba) x).cells cs :=
 (Rd.move (Moves.of_only o (fun k hk _ e => hk.2 e) (fun k hk _ => hk)) x).1 _ rd
/-- A box of seven cells, stored cell by cell in a region that draws. -/
theorem set7 {w : World} {b : Nat} {v0 v1 v2 v3 v4 v5 v6 : Value} {t : TypeId} (h : Blk w b #[v0, v1, v2, v3, v4, v5, v6] t) (u0 u1 u2 u3 u4 u5 u6 : Value) :
  ∃ w', w' = (((((((w.setCell ⟨b, 0, none⟩ u0).setCell ⟨b, 1, none⟩ u1).setCell ⟨b, 2, none⟩ u2).setCell ⟨b, 3, none⟩ u3).setCell ⟨b, 4, none⟩ u4).setCell ⟨b, 5, none⟩ u5).setCell ⟨b, 6, none⟩ u6).drew ∧ Hid (Blk w' b #[u0, u1, u2, u3, u4, u5, u6] t) ∧ Hid (Only (fun k => k = b) w w') := by
 refine ⟨_, rfl, ?_, ?_⟩
 ·have h : w.heap[b]? = _ := h
  show _ = _
  simp [World.setCell, World.drew, Array.getElem?_modify, h]
 ·exact Lib.hid (((((((((Only.refl (fun k => k = b) w).setCell (p := ⟨b, 0, none⟩) (.inl rfl) u0).setCell (p := ⟨b, 1, none⟩) (.inl rfl) u1).setCell (p := ⟨b, 2, none⟩) (.inl rfl) u2).setCell (p := ⟨b, 3, none⟩) (.inl rfl) u3).setCell (p := ⟨b, 4, none⟩) (.inl rfl) u4).setCell (p := ⟨b, 5, none⟩) (.inl rfl) u5).setCell (p := ⟨b, 6, none⟩) (.inl rfl) u6).drew)
theorem pick_next {T : List LxM.T} {st : St} {l : List (ByteArray × Int)} {j : Nat} (h : j < l.length) (hi : is T l[j].1 st = false) : pick T st (l.drop j) = pick T st (l.drop (j + 1)) := by
 unfold pick
 rw [List.drop_eq_getElem_cons h, List.find?_cons, hi]
theorem pick_here {T : List LxM.T} {st : St} {l : List (ByteArray × Int)} {j : Nat} (h : j < l.length) (hi : is T l[j].1 st = true) : pick T st (l.drop j) = some l[j].2 := by
 unfold pick
 rw [List.drop_eq_getElem_cons h, List.find?_cons, hi]
 rfl
theorem pick_end {T : List LxM.T} {st : St} {l : List (ByteArray × Int)} {j : Nat} (h : l.length ≤ j) : pick T st (l.drop j) = none := by
 unfold pick
 rw [List.drop_eq_nil_of_le h]
 rfl
theorem is_code {T : List LxM.T} {st : St} {x : ByteArray} (h : is T x st = true) : st.code = 0 := by
 unfold PrM.is at h
 rw [Bool.and_eq_true] at h
 simpa using h.1
/-- A table's cells. -/
theorem tab_cell {A : Type} {w : World} {b j : Nat} {l : List A} {f : A → Value} {C : Array Value} {t : TypeId} (h : Blk w b C t) (hC : C = (l.map f).toArray) (hj : j < l.length) : w.cell? ⟨b, j, none⟩ = some (f l[j]) := by
 subst hC
 have h : w.heap[b]? = _ := h
 simp [World.cell?, h, hj]
end Go.Proofs.Yteakhlnnepjhpaa
