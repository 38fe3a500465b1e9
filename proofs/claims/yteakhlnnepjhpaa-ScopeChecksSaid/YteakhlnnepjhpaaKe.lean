/- The document's parser: what may be indexed and called (printed by genpr2.py). -/
import Derived.Test.YteakhlnnepjhpaaKd
namespace Go.Proofs.Yteakhlnnepjhpaa
open Go.RowKit PrM
set_option linter.unusedVariables false
set_option linter.unusedSimpArgs false
theorem wide_or {w w0 w1 : World} {x : X} {cs : Array Value} (h : w0.heap.size ≤ w1.heap.size) (rd : (Rd w (fun k => Lo w0 k ∨ w1.heap.size ≤ k) x).cells cs) : (Rd w (Lo w0) x).cells cs :=
 (Rd.move (Moves.of_below (Below.refl _ w) fun k hk _ => by unfold Lo at *; omega) x).1 _ rd
/-- The token that stands here, in a box. -/
theorem tokbox {w : World} {g tg c : Nat} {T : List LxM.T} {st : St} (C : Array Value) : ∃ w2, w2 = (w.alloc (.cells C 51)).drew ∧ Hid (Below w.heap.size w w2) ∧ Hid (Blk w2 w.heap.size C 51) :=
 ⟨_, rfl, ((Below.refl _ w).alloc (Nat.le_refl _) _).drew, Blk.new w C _⟩
theorem oneF_cells (w : World) (a : Int) {w0 : World} {y : X} {u0 u1 : Value} (hy : (Rd w (Lo w0) y).cells #[u0, u1]) (h0 : w0.heap.size ≤ w.heap.size) :
  (Rd (w.alloc (.cells #[u0, u1] 36)) (Lo w0) (.e 7 a 0 ⟨#[]⟩ 0 .nil (X.one y))).cells #[.int .i64 7, .int .i64 a, .int .i64 0, .string ⟨#[]⟩, .int .i64 0, .slice none 0 0, .slice (some ⟨w.heap.size, 0, none⟩) 1 1] :=
 ⟨_, _, rfl, sl_nil _ _ _, sl_new (own_one hy rfl) _ _ rfl (fun _ hk _ => hk) h0⟩
theorem fail_i (T : List LxM.T) (k : Int) (st : St) : (PrM.fail T k st).i = st.i := by unfold PrM.fail; split <;> rfl
theorem take_i {T : List LxM.T} (x : ByteArray) (st : St) : st.i ≤ (PrM.take T x st).i := by
 unfold PrM.take
 split
 ·exact Nat.le_succ _
 ·rw [fail_i]; exact Nat.le_refl _
section
variable {F g tg c : Nat} {T : List LxM.T}
set_option maxRecDepth 20000 in
set_option maxHeartbeats 16000000 in
theorem post_any (hG : PrM.Good T) (hF : OkF g tg c T F) (W : World) (st : St) (d : Nat) (h : PS W g tg c T st) (hd : d ≤ 100) (hm : 100 * (101 - d) + 6 ≤ F + 1) : Calls Try.prog 69 #[ptr g, .int .i64 (d : Int)] W (RE W g tg c T st ((fs T (F + 1)).post d st)) := by
 have EX := Lib.hid (fun W1 st1 (h1 : PS W1 g tg c T st1) => hF.exp W1 st1 d h1 hd (by omega))
 have BO := Lib.hid (fun W1 st1 (h1 : PS W1 g tg c T st1) => hF.body W1 st1 d h1 hd (by omega))
 have TA := Lib.hid (fun W1 st1 a (h1 : PS W1 g tg c T st1) => hF.table W1 st1 a d h1 hd (by omega))
 have BH := Lib.hid (fun W1 st1 P x v0 v1 v2 v3 v4 v5 v6 (h1 : PS W1 g tg c T st1) (h2 : (Rd W1 P x).cells #[v0, v1, v2, v3, v4, v5, v6]) (h3 : ¬ P g) => hF.behind W1 st1 P x v0 v1 v2 v3 v4 v5 v6 d h1 h2 h3 hd (by omega))
 have e1 : (fs T (F + 1)).post (d : Int) st = postS T (fs T F) d st := rfl
 rw [e1]
 unfold PrM.postS
 have B0 := Lib.hid (Only.of_below (F := fun b => b = g) ((Below.refl W.heap.size W).alloc (Nat.le_refl _) (.cells Z7 39)))
 have K4_0 := Lib.hid (Blk.new W Z7 39)
 have HG := Lib.hid h.blk.lt
 have G4 := HG
 have HW0 : Hid (g < (W.alloc (.cells Z7 39)).heap.size) := Nat.lt_trans HG.out (al_lt W _)
 have P0 := Lib.hid (h.alloc (.cells Z7 39))
 have O0 := Lib.hid (Only.refl (fun b => b = g) (W.alloc (.cells Z7 39)))
 have i0 : (0 : Int) ≤ (d : Int) := by omega
 have i1 : (d : Int) ≤ 101 := by omega
 have HGG := Lib.hid hG
 have UPK := Lib.hid (fun k => tk_kind h hG k)
 have NG : Hid (¬ Lo (W.alloc (.cells Z7 39)) g) := Lib.hid (by have := HW0.out; unfold Lo; omega)
 have FA := Lib.hid (fun W1 (h1 : PS W1 g tg c T st) => fail_any h1 14)
 have TR := Lib.hid (fun W1 st1 (h1 : PS W1 g tg c T st1) => take_any h1 HGG.out ⟨#[41]⟩)
 have RZ := Lib.hid (fun w k a n s op => leaf_cells w (Lo (W.alloc (.cells Z7 39))) k a n s op)
 have Olb := Lib.hid (fun W1 (h1 : PS W1 g tg c T st) => opt_any h1 HGG.out ⟨#[40]⟩)
 have Ulb := Lib.hid (is_next h hG ⟨#[40]⟩)
 have Onl := Lib.hid (fun W1 (h1 : PS W1 g tg c T st) => opt_any h1 HGG.out ⟨#[110, 105, 108]⟩)
 have Unl := Lib.hid (is_next h hG ⟨#[110, 105, 108]⟩)
 have Otr := Lib.hid (fun W1 (h1 : PS W1 g tg c T st) => opt_any h1 HGG.out ⟨#[116, 114, 117, 101]⟩)
 have Utr := Lib.hid (is_next h hG ⟨#[116, 114, 117, 101]⟩)
 have Ofa := Lib.hid (fun W1 (h1 : PS W1 g tg c T st) => opt_any h1 HGG.out ⟨#[102, 97, 108, 115, 101]⟩)
 have Ufa := Lib.hid (is_next h hG ⟨#[102, 97, 108, 115, 101]⟩)
 have Ofu := Lib.hid (fun W1 (h1 : PS W1 g tg c T st) => opt_any h1 HGG.out ⟨#[102, 117, 110, 99, 116, 105, 111, 110]⟩)
 have Ufu := Lib.hid (is_next h hG ⟨#[102, 117, 110, 99, 116, 105, 111, 110]⟩)
 have Olc := Lib.hid (fun W1 (h1 : PS W1 g tg c T st) => opt_any h1 HGG.out ⟨#[123]⟩)
 have Ulc := Lib.hid (is_next h hG ⟨#[123]⟩)
 unfold PrM.opt at Olb Onl Otr Ofa Ofu Olc
 generalize is T ⟨#[40]⟩ st = blb at *
 generalize is T ⟨#[110, 105, 108]⟩ st = bnl at *
 generalize is T ⟨#[116, 114, 117, 101]⟩ st = btr at *
 generalize is T ⟨#[102, 97, 108, 115, 101]⟩ st = bfa at *
 generalize is T ⟨#[102, 117, 110, 99, 116, 105, 111, 110]⟩ st = bfu at *
 generalize is T ⟨#[123]⟩ st = blc at *
 obtain ⟨t, et⟩ : ∃ t, PrM.tk T st = t := ⟨_, rfl⟩
 have TC : Hid (∀ w, PS w g tg c T st → w.cell? ⟨tg, st.i * 4, none⟩ = some (.int .i64 t.kind) ∧ w.cell? ⟨tg, st.i * 4 + 1, none⟩ = some (.string ⟨t.text.toArray⟩) ∧ w.cell? ⟨tg, st.i * 4 + 2, none⟩ = some (.int .i64 t.n) ∧ w.cell? ⟨tg, st.i * 4 + 3, none⟩ = some (.int .i64 (t.at_ : Int))) := Lib.hid (fun w hw => by rw [← et]; exact hw.tok)
 rw [et] at UPK ⊢
 have j0 : (0 : Int) ≤ (st.i : Int) := by omega
 have j1 : (st.i : Int) < (T.length : Int) := by have := h.inb; omega
 have j2 : (st.i : Int) < 100000 := by have := h.inb; have := h.small; omega
 have jc : (T.length : Int) ≤ (c : Int) := by have := h.cap; omega
 have hc0 : ∃ c0, st.code = c0 := ⟨_, rfl⟩
 clear h hF hm e1 hd hG et
 by_cases q : st.code = 0
 ·rw [if_neg (by simpa using q)]
  have q1 : (st.code != 0) = false := by rw [q]; rfl
  clear q hc0
  by_cases k2 : t.kind = 2
  ·rw [if_pos k2]
   have kb2 : (t.kind == 2) = true := by rw [k2]; rfl
   have UPN := Lib.hid (UPK.out (by rw [k2]; decide))
   clear k2
   go_enter Try.func69, Try.ntmps69
   go_wp2_with (first
    |(go_at_call 34; (with_reducible refine (place_any P0.out).mono ?_); rintro e w1 ⟨rfl, sm⟩; have P1 := Lib.hid (P0.out.sm sm); have O1 := Lib.hid (O0.out.bel (sm.below _)); have K4_1 := Lib.hid (K4_0.out.sm sm); clear sm; obtain ⟨⟨c0, c1, c2, c3⟩, -⟩ := P1.out.blk.four; obtain ⟨t0, t1, t2, t3⟩ := TC.out _ P1.out; have A0 := keep_al TokZ c0; have A1 := keep_al TokZ c1; have E0 := keep_al TokZ t0; have E1 := keep_al TokZ t1; have E2 := keep_al TokZ t2; have E3 := keep_al TokZ t3; obtain ⟨⟨z0, z1, z2, z3⟩, y0, y1, y2, y3⟩ := (Blk.new w1 #[.int .i64 0, .string ⟨#[]⟩, .int .i64 0, .int .i64 0] 51).four; have G6 := Lib.hid (show g < w1.heap.size from Nat.lt_of_lt_of_le HW0.out O1.out.size)))
   go_region
   obtain ⟨w2, hw2, bb, K6_2⟩ := tokbox (w := w1) (g := g) (tg := tg) (c := c) (T := T) (st := st) #[.int .i64 t.kind, .string ⟨t.text.toArray⟩, .int .i64 t.n, .int .i64 (t.at_ : Int)]
   rw [← hw2]
   clear hw2 c0 c1 c2 c3 t0 t1 t2 t3 A0 A1 E0 E1 E2 E3 z0 z1 z2 z3 y0 y1 y2 y3
   have P2 := Lib.hid (P1.out.only (Only.of_below (F := fun _ => False) bb.out) (fun _ f => f.elim))
   have O2 := Lib.hid (O1.out.bel bb.out)
   have K4_2 := Lib.hid (K4_1.out.below bb.out K4_1.out.lt)
   obtain ⟨⟨d0, d1, d2, d3⟩, fr0, fr1, fr2, fr3⟩ := P2.out.blk.four
   obtain ⟨⟨e0, e1, e2, e3⟩, -⟩ := K6_2.out.four
   have oo := only_set (g := g) w2 (.int .i64 ((st.i : Int) + 1))
   have P3 := Lib.hid (PS.inc P2.out UPN.out)
   have O3 := Lib.hid (O2.out.up oo)
   have K4_3 := Lib.hid (K4_2.out.only oo (by have := G4.out; omega))
   have K6_3 := Lib.hid (K6_2.out.only oo (by have := G6.out; omega))
   obtain ⟨⟨x0, x1, x2, x3⟩, -⟩ := K6_3.out.four
   clear oo
   go_wp2_with (first
    |(go_at_call 52; (with_reducible refine (BH.out _ (up st) _ (.e 6 (place T st) 0 ⟨t.text.toArray⟩ 0 .nil .nil) (.int .i64 6) (.int .i64 (place T st)) (.int .i64 0) (.string ⟨t.text.toArray⟩) (.int .i64 0) (.slice none 0 0) (.slice none 0 0) P3.out (RZ.out _ 6 (place T st) 0 ⟨t.text.toArray⟩ 0) NG.out).mono ?_); rintro e w4 ⟨⟨v0, v1, v2, v3, v4, v5, v6, rfl, rd⟩, p, o, ii⟩; have P4 := Lib.hid (p); have O4 := Lib.hid (O3.out.up o); have K4_4 := Lib.hid (K4_3.out.only o (by have := G4.out; omega)); have K6_4 := Lib.hid (K6_3.out.only o (by have := G6.out; omega)); have Rx_4 := Lib.hid (wide_or O3.out.size rd); have Ix := Lib.hid ii; clear p o rd ii)
    |(refine wpList_store_row rfl 39 (.tmp 4) (.tmp 44) rfl W.heap.size #[v0, v1, v2, v3, v4, v5, v6] rfl rfl 39 _ K4_4.out sizeE rfl (ones7 (Rd.one_cells _ _ Rx_4.out)) ?_)
    |(refine wp_store_row 39 (.tmp 4) (.tmp 44) rfl W.heap.size #[v0, v1, v2, v3, v4, v5, v6] rfl rfl 39 _ K4_4.out sizeE rfl (ones7 (Rd.one_cells _ _ Rx_4.out)) ?_))
   refine bodyPost_ret (res7 rfl _ _ W.heap.size _ _ _ _ _ _ _ rfl (blk_row K4_4.out)) rfl ?_
   exact RE.end_ HG.out (Nat.le_refl _) (al_lt W (.cells Z7 39)) Rx_4.out P4.out (B0.out.up O4.out) (by have := Ix.out; rw [up_i] at this; omega)
  ·rw [if_neg k2]
   have kb2 : (t.kind == 2) = false := by simpa using k2
   clear k2
   cases blb
   ·simp only [Bool.false_eq_true, ↓reduceIte]
    rw [if_neg (by decide)] at Olb
    by_cases k3 : t.kind = 3
    ·rw [if_pos k3]
     have kb3 : (t.kind == 3) = true := by rw [k3]; rfl
     have UPN := Lib.hid (UPK.out (by rw [k3]; decide))
     clear k3
     go_enter Try.func69, Try.ntmps69
     go_wp2_with (first
      |(go_at_call 34; (with_reducible refine (place_any P0.out).mono ?_); rintro e w1 ⟨rfl, sm⟩; have P1 := Lib.hid (P0.out.sm sm); have O1 := Lib.hid (O0.out.bel (sm.below _)); have K4_1 := Lib.hid (K4_0.out.sm sm); clear sm; obtain ⟨⟨c0, c1, c2, c3⟩, -⟩ := P1.out.blk.four; obtain ⟨t0, t1, t2, t3⟩ := TC.out _ P1.out; have A0 := keep_al TokZ c0; have A1 := keep_al TokZ c1; have E0 := keep_al TokZ t0; have E1 := keep_al TokZ t1; have E2 := keep_al TokZ t2; have E3 := keep_al TokZ t3; obtain ⟨⟨z0, z1, z2, z3⟩, y0, y1, y2, y3⟩ := (Blk.new w1 #[.int .i64 0, .string ⟨#[]⟩, .int .i64 0, .int .i64 0] 51).four; have G6 := Lib.hid (show g < w1.heap.size from Nat.lt_of_lt_of_le HW0.out O1.out.size)))
     go_region
     obtain ⟨w2, hw2, bb, K6_2⟩ := tokbox (w := w1) (g := g) (tg := tg) (c := c) (T := T) (st := st) #[.int .i64 t.kind, .string ⟨t.text.toArray⟩, .int .i64 t.n, .int .i64 (t.at_ : Int)]
     rw [← hw2]
     clear hw2 c0 c1 c2 c3 t0 t1 t2 t3 A0 A1 E0 E1 E2 E3 z0 z1 z2 z3 y0 y1 y2 y3
     have P2 := Lib.hid (P1.out.only (Only.of_below (F := fun _ => False) bb.out) (fun _ f => f.elim))
     have O2 := Lib.hid (O1.out.bel bb.out)
     have K4_2 := Lib.hid (K4_1.out.below bb.out K4_1.out.lt)
     obtain ⟨⟨d0, d1, d2, d3⟩, fr0, fr1, fr2, fr3⟩ := P2.out.blk.four
     obtain ⟨⟨e0, e1, e2, e3⟩, -⟩ := K6_2.out.four
     go_wp2_with (first
      |(go_at_call 35; (with_reducible refine (Olb.out _ P2.out).mono ?_); rintro e w3 ⟨rfl, p, o⟩; have P3 := Lib.hid (p); have O3 := Lib.hid (O2.out.up o); have K4_3 := Lib.hid (K4_2.out.only o (by have := G4.out; omega)); have K6_3 := Lib.hid (K6_2.out.only o (by have := G6.out; omega)); clear p o; obtain ⟨⟨e0, e1, e2, e3⟩, -⟩ := K6_3.out.four; obtain ⟨⟨d0, d1, d2, d3⟩, fr0, fr1, fr2, fr3⟩ := P3.out.blk.four; have oo := only_set (g := g) w3 (.int .i64 ((st.i : Int) + 1)); have P4 := Lib.hid (PS.inc P3.out UPN.out); have O4 := Lib.hid (O3.out.up oo); have K4_4 := Lib.hid (K4_3.out.only oo (by have := G4.out; omega)); have K6_4 := Lib.hid (K6_3.out.only oo (by have := G6.out; omega)); obtain ⟨⟨x0, x1, x2, x3⟩, -⟩ := K6_4.out.four; clear oo)
      |(refine wpList_store_row rfl 39 (.tmp 4) (.tmp 71) rfl W.heap.size #[.int .i64 4, .int .i64 (place T st), .int .i64 t.n, .string ⟨#[]⟩, .int .i64 0, .slice none 0 0, .slice none 0 0] rfl rfl 39 _ K4_4.out sizeE rfl (ones7 (Rd.one_cells _ _ (RZ.out (w3.setCell ⟨g, 1, none⟩ (.int .i64 ((st.i : Int) + 1))) 4 (place T st) t.n ⟨#[]⟩ 0))) ?_)
      |(refine wp_store_row 39 (.tmp 4) (.tmp 71) rfl W.heap.size #[.int .i64 4, .int .i64 (place T st), .int .i64 t.n, .string ⟨#[]⟩, .int .i64 0, .slice none 0 0, .slice none 0 0] rfl rfl 39 _ K4_4.out sizeE rfl (ones7 (Rd.one_cells _ _ (RZ.out (w3.setCell ⟨g, 1, none⟩ (.int .i64 ((st.i : Int) + 1))) 4 (place T st) t.n ⟨#[]⟩ 0))) ?_))
     refine bodyPost_ret (res7 rfl _ _ W.heap.size _ _ _ _ _ _ _ rfl (blk_row K4_4.out)) rfl ?_
     exact RE.end_ HG.out (Nat.le_refl _) (al_lt W (.cells Z7 39)) (RZ.out (w3.setCell ⟨g, 1, none⟩ (.int .i64 ((st.i : Int) + 1))) 4 (place T st) t.n ⟨#[]⟩ 0) P4.out (B0.out.up O4.out) (by rw [up_i]; omega)
    ·rw [if_neg k3]
     have kb3 : (t.kind == 3) = false := by simpa using k3
     clear k3
     by_cases k4 : t.kind = 4
     ·rw [if_pos k4]
      have kb4 : (t.kind == 4) = true := by rw [k4]; rfl
      have UPN := Lib.hid (UPK.out (by rw [k4]; decide))
      clear k4
      go_enter Try.func69, Try.ntmps69
      go_wp2_with (first
       |(go_at_call 34; (with_reducible refine (place_any P0.out).mono ?_); rintro e w1 ⟨rfl, sm⟩; have P1 := Lib.hid (P0.out.sm sm); have O1 := Lib.hid (O0.out.bel (sm.below _)); have K4_1 := Lib.hid (K4_0.out.sm sm); clear sm; obtain ⟨⟨c0, c1, c2, c3⟩, -⟩ := P1.out.blk.four; obtain ⟨t0, t1, t2, t3⟩ := TC.out _ P1.out; have A0 := keep_al TokZ c0; have A1 := keep_al TokZ c1; have E0 := keep_al TokZ t0; have E1 := keep_al TokZ t1; have E2 := keep_al TokZ t2; have E3 := keep_al TokZ t3; obtain ⟨⟨z0, z1, z2, z3⟩, y0, y1, y2, y3⟩ := (Blk.new w1 #[.int .i64 0, .string ⟨#[]⟩, .int .i64 0, .int .i64 0] 51).four; have G6 := Lib.hid (show g < w1.heap.size from Nat.lt_of_lt_of_le HW0.out O1.out.size)))
      go_region
      obtain ⟨w2, hw2, bb, K6_2⟩ := tokbox (w := w1) (g := g) (tg := tg) (c := c) (T := T) (st := st) #[.int .i64 t.kind, .string ⟨t.text.toArray⟩, .int .i64 t.n, .int .i64 (t.at_ : Int)]
      rw [← hw2]
      clear hw2 c0 c1 c2 c3 t0 t1 t2 t3 A0 A1 E0 E1 E2 E3 z0 z1 z2 z3 y0 y1 y2 y3
      have P2 := Lib.hid (P1.out.only (Only.of_below (F := fun _ => False) bb.out) (fun _ f => f.elim))
      have O2 := Lib.hid (O1.out.bel bb.out)
      have K4_2 := Lib.hid (K4_1.out.below bb.out K4_1.out.lt)
      obtain ⟨⟨d0, d1, d2, d3⟩, fr0, fr1, fr2, fr3⟩ := P2.out.blk.four
      obtain ⟨⟨e0, e1, e2, e3⟩, -⟩ := K6_2.out.four
      go_wp2_with (first
       |(go_at_call 35; (with_reducible refine (Olb.out _ P2.out).mono ?_); rintro e w3 ⟨rfl, p, o⟩; have P3 := Lib.hid (p); have O3 := Lib.hid (O2.out.up o); have K4_3 := Lib.hid (K4_2.out.only o (by have := G4.out; omega)); have K6_3 := Lib.hid (K6_2.out.only o (by have := G6.out; omega)); clear p o; obtain ⟨⟨e0, e1, e2, e3⟩, -⟩ := K6_3.out.four; obtain ⟨⟨d0, d1, d2, d3⟩, fr0, fr1, fr2, fr3⟩ := P3.out.blk.four; have oo := only_set (g := g) w3 (.int .i64 ((st.i : Int) + 1)); have P4 := Lib.hid (PS.inc P3.out UPN.out); have O4 := Lib.hid (O3.out.up oo); have K4_4 := Lib.hid (K4_3.out.only oo (by have := G4.out; omega)); have K6_4 := Lib.hid (K6_3.out.only oo (by have := G6.out; omega)); obtain ⟨⟨x0, x1, x2, x3⟩, -⟩ := K6_4.out.four; clear oo)
       |(refine wpList_store_row rfl 39 (.tmp 4) (.tmp 86) rfl W.heap.size #[.int .i64 5, .int .i64 (place T st), .int .i64 0, .string ⟨t.text.toArray⟩, .int .i64 0, .slice none 0 0, .slice none 0 0] rfl rfl 39 _ K4_4.out sizeE rfl (ones7 (Rd.one_cells _ _ (RZ.out (w3.setCell ⟨g, 1, none⟩ (.int .i64 ((st.i : Int) + 1))) 5 (place T st) 0 ⟨t.text.toArray⟩ 0))) ?_)
       |(refine wp_store_row 39 (.tmp 4) (.tmp 86) rfl W.heap.size #[.int .i64 5, .int .i64 (place T st), .int .i64 0, .string ⟨t.text.toArray⟩, .int .i64 0, .slice none 0 0, .slice none 0 0] rfl rfl 39 _ K4_4.out sizeE rfl (ones7 (Rd.one_cells _ _ (RZ.out (w3.setCell ⟨g, 1, none⟩ (.int .i64 ((st.i : Int) + 1))) 5 (place T st) 0 ⟨t.text.toArray⟩ 0))) ?_))
      refine bodyPost_ret (res7 rfl _ _ W.heap.size _ _ _ _ _ _ _ rfl (blk_row K4_4.out)) rfl ?_
      exact RE.end_ HG.out (Nat.le_refl _) (al_lt W (.cells Z7 39)) (RZ.out (w3.setCell ⟨g, 1, none⟩ (.int .i64 ((st.i : Int) + 1))) 5 (place T st) 0 ⟨t.text.toArray⟩ 0) P4.out (B0.out.up O4.out) (by rw [up_i]; omega)
     ·rw [if_neg k4]
      have kb4 : (t.kind == 4) = false := by simpa using k4
      clear k4
      cases bnl
      ·rw [if_neg (by decide)] at Onl
       cases btr
       ·rw [if_neg (by decide)] at Otr
        cases bfa
        ·rw [if_neg (by decide)] at Ofa
         cases bfu
         ·rw [if_neg (by decide)] at Ofu
          cases blc
          ·rw [if_neg (by decide)] at Olc
           simp only [Bool.false_eq_true, ↓reduceIte]
           go_enter Try.func69, Try.ntmps69
           go_wp2_with (first
            |(go_at_call 34; (with_reducible refine (place_any P0.out).mono ?_); rintro e w1 ⟨rfl, sm⟩; have P1 := Lib.hid (P0.out.sm sm); have O1 := Lib.hid (O0.out.bel (sm.below _)); have K4_1 := Lib.hid (K4_0.out.sm sm); clear sm; obtain ⟨⟨c0, c1, c2, c3⟩, -⟩ := P1.out.blk.four; obtain ⟨t0, t1, t2, t3⟩ := TC.out _ P1.out; have A0 := keep_al TokZ c0; have A1 := keep_al TokZ c1; have E0 := keep_al TokZ t0; have E1 := keep_al TokZ t1; have E2 := keep_al TokZ t2; have E3 := keep_al TokZ t3; obtain ⟨⟨z0, z1, z2, z3⟩, y0, y1, y2, y3⟩ := (Blk.new w1 #[.int .i64 0, .string ⟨#[]⟩, .int .i64 0, .int .i64 0] 51).four; have G6 := Lib.hid (show g < w1.heap.size from Nat.lt_of_lt_of_le HW0.out O1.out.size)))
           go_region
           obtain ⟨w2, hw2, bb, K6_2⟩ := tokbox (w := w1) (g := g) (tg := tg) (c := c) (T := T) (st := st) #[.int .i64 t.kind, .string ⟨t.text.toArray⟩, .int .i64 t.n, .int .i64 (t.at_ : Int)]
           rw [← hw2]
           clear hw2 c0 c1 c2 c3 t0 t1 t2 t3 A0 A1 E0 E1 E2 E3 z0 z1 z2 z3 y0 y1 y2 y3
           have P2 := Lib.hid (P1.out.only (Only.of_below (F := fun _ => False) bb.out) (fun _ f => f.elim))
           have O2 := Lib.hid (O1.out.bel bb.out)
           have K4_2 := Lib.hid (K4_1.out.below bb.out K4_1.out.lt)
           obtain ⟨⟨d0, d1, d2, d3⟩, fr0, fr1, fr2, fr3⟩ := P2.out.blk.four
           obtain ⟨⟨e0, e1, e2, e3⟩, -⟩ := K6_2.out.four
           go_wp2_with (first
            |(go_at_call 35; (with_reducible refine (Olb.out _ P2.out).mono ?_); rintro e w3 ⟨rfl, p, o⟩; have P3 := Lib.hid (p); have O3 := Lib.hid (O2.out.up o); have K4_3 := Lib.hid (K4_2.out.only o (by have := G4.out; omega)); have K6_3 := Lib.hid (K6_2.out.only o (by have := G6.out; omega)); clear p o; obtain ⟨⟨e0, e1, e2, e3⟩, -⟩ := K6_3.out.four; obtain ⟨⟨d0, d1, d2, d3⟩, fr0, fr1, fr2, fr3⟩ := P3.out.blk.four)
            |(go_at_call 35; (with_reducible refine (Onl.out _ P3.out).mono ?_); rintro e w4 ⟨rfl, p, o⟩; have P4 := Lib.hid (p); have O4 := Lib.hid (O3.out.up o); have K4_4 := Lib.hid (K4_3.out.only o (by have := G4.out; omega)); have K6_4 := Lib.hid (K6_3.out.only o (by have := G6.out; omega)); clear p o; obtain ⟨⟨e0, e1, e2, e3⟩, -⟩ := K6_4.out.four; obtain ⟨⟨d0, d1, d2, d3⟩, fr0, fr1, fr2, fr3⟩ := P4.out.blk.four)
            |(go_at_call 35; (with_reducible refine (Otr.out _ P4.out).mono ?_); rintro e w5 ⟨rfl, p, o⟩; have P5 := Lib.hid (p); have O5 := Lib.hid (O4.out.up o); have K4_5 := Lib.hid (K4_4.out.only o (by have := G4.out; omega)); have K6_5 := Lib.hid (K6_4.out.only o (by have := G6.out; omega)); clear p o; obtain ⟨⟨e0, e1, e2, e3⟩, -⟩ := K6_5.out.four; obtain ⟨⟨d0, d1, d2, d3⟩, fr0, fr1, fr2, fr3⟩ := P5.out.blk.four)
            |(go_at_call 35; (with_reducible refine (Ofa.out _ P5.out).mono ?_); rintro e w6 ⟨rfl, p, o⟩; have P6 := Lib.hid (p); have O6 := Lib.hid (O5.out.up o); have K4_6 := Lib.hid (K4_5.out.only o (by have := G4.out; omega)); have K6_6 := Lib.hid (K6_5.out.only o (by have := G6.out; omega)); clear p o; obtain ⟨⟨e0, e1, e2, e3⟩, -⟩ := K6_6.out.four; obtain ⟨⟨d0, d1, d2, d3⟩, fr0, fr1, fr2, fr3⟩ := P6.out.blk.four)
            |(go_at_call 35; (with_reducible refine (Ofu.out _ P6.out).mono ?_); rintro e w7 ⟨rfl, p, o⟩; have P7 := Lib.hid (p); have O7 := Lib.hid (O6.out.up o); have K4_7 := Lib.hid (K4_6.out.only o (by have := G4.out; omega)); have K6_7 := Lib.hid (K6_6.out.only o (by have := G6.out; omega)); clear p o; obtain ⟨⟨e0, e1, e2, e3⟩, -⟩ := K6_7.out.four; obtain ⟨⟨d0, d1, d2, d3⟩, fr0, fr1, fr2, fr3⟩ := P7.out.blk.four)
            |(go_at_call 35; (with_reducible refine (Olc.out _ P7.out).mono ?_); rintro e w8 ⟨rfl, p, o⟩; have P8 := Lib.hid (p); have O8 := Lib.hid (O7.out.up o); have K4_8 := Lib.hid (K4_7.out.only o (by have := G4.out; omega)); have K6_8 := Lib.hid (K6_7.out.only o (by have := G6.out; omega)); clear p o; obtain ⟨⟨e0, e1, e2, e3⟩, -⟩ := K6_8.out.four; obtain ⟨⟨d0, d1, d2, d3⟩, fr0, fr1, fr2, fr3⟩ := P8.out.blk.four)
            |(go_at_call 17; (with_reducible refine (FA.out _ P8.out).mono ?_); rintro e w9 ⟨rfl, p, o⟩; have P9 := Lib.hid (p); have O9 := Lib.hid (O8.out.up o); have K4_9 := Lib.hid (K4_8.out.only o (by have := G4.out; omega)); have K6_9 := Lib.hid (K6_8.out.only o (by have := G6.out; omega)); clear p o)
            |(refine wpList_store_row rfl 39 (.tmp 4) (.tmp 120) rfl W.heap.size Z7 rfl rfl 39 _ K4_9.out sizeE rfl (ones7 (Rd.one_cells _ _ (RZ.out w9 0 0 0 ⟨#[]⟩ 0))) ?_)
            |(refine wp_store_row 39 (.tmp 4) (.tmp 120) rfl W.heap.size Z7 rfl rfl 39 _ K4_9.out sizeE rfl (ones7 (Rd.one_cells _ _ (RZ.out w9 0 0 0 ⟨#[]⟩ 0))) ?_))
           refine bodyPost_ret (res7 rfl _ _ W.heap.size _ _ _ _ _ _ _ rfl (blk_row K4_9.out)) rfl ?_
           exact RE.end_ HG.out (Nat.le_refl _) (al_lt W (.cells Z7 39)) (RZ.out w9 0 0 0 ⟨#[]⟩ 0) P9.out (B0.out.up O9.out) (by rw [fail_i]; omega)
          ·rw [if_pos rfl] at Olc
           simp only [Bool.false_eq_true, ↓reduceIte]
           go_enter Try.func69, Try.ntmps69
           go_wp2_with (first
            |(go_at_call 34; (with_reducible refine (place_any P0.out).mono ?_); rintro e w1 ⟨rfl, sm⟩; have P1 := Lib.hid (P0.out.sm sm); have O1 := Lib.hid (O0.out.bel (sm.below _)); have K4_1 := Lib.hid (K4_0.out.sm sm); clear sm; obtain ⟨⟨c0, c1, c2, c3⟩, -⟩ := P1.out.blk.four; obtain ⟨t0, t1, t2, t3⟩ := TC.out _ P1.out; have A0 := keep_al TokZ c0; have A1 := keep_al TokZ c1; have E0 := keep_al TokZ t0; have E1 := keep_al TokZ t1; have E2 := keep_al TokZ t2; have E3 := keep_al TokZ t3; obtain ⟨⟨z0, z1, z2, z3⟩, y0, y1, y2, y3⟩ := (Blk.new w1 #[.int .i64 0, .string ⟨#[]⟩, .int .i64 0, .int .i64 0] 51).four; have G6 := Lib.hid (show g < w1.heap.size from Nat.lt_of_lt_of_le HW0.out O1.out.size)))
           go_region
           obtain ⟨w2, hw2, bb, K6_2⟩ := tokbox (w := w1) (g := g) (tg := tg) (c := c) (T := T) (st := st) #[.int .i64 t.kind, .string ⟨t.text.toArray⟩, .int .i64 t.n, .int .i64 (t.at_ : Int)]
           rw [← hw2]
           clear hw2 c0 c1 c2 c3 t0 t1 t2 t3 A0 A1 E0 E1 E2 E3 z0 z1 z2 z3 y0 y1 y2 y3
           have P2 := Lib.hid (P1.out.only (Only.of_below (F := fun _ => False) bb.out) (fun _ f => f.elim))
           have O2 := Lib.hid (O1.out.bel bb.out)
           have K4_2 := Lib.hid (K4_1.out.below bb.out K4_1.out.lt)
           obtain ⟨⟨d0, d1, d2, d3⟩, fr0, fr1, fr2, fr3⟩ := P2.out.blk.four
           obtain ⟨⟨e0, e1, e2, e3⟩, -⟩ := K6_2.out.four
           go_wp2_with (first
            |(go_at_call 35; (with_reducible refine (Olb.out _ P2.out).mono ?_); rintro e w3 ⟨rfl, p, o⟩; have P3 := Lib.hid (p); have O3 := Lib.hid (O2.out.up o); have K4_3 := Lib.hid (K4_2.out.only o (by have := G4.out; omega)); have K6_3 := Lib.hid (K6_2.out.only o (by have := G6.out; omega)); clear p o; obtain ⟨⟨e0, e1, e2, e3⟩, -⟩ := K6_3.out.four; obtain ⟨⟨d0, d1, d2, d3⟩, fr0, fr1, fr2, fr3⟩ := P3.out.blk.four)
            |(go_at_call 35; (with_reducible refine (Onl.out _ P3.out).mono ?_); rintro e w4 ⟨rfl, p, o⟩; have P4 := Lib.hid (p); have O4 := Lib.hid (O3.out.up o); have K4_4 := Lib.hid (K4_3.out.only o (by have := G4.out; omega)); have K6_4 := Lib.hid (K6_3.out.only o (by have := G6.out; omega)); clear p o; obtain ⟨⟨e0, e1, e2, e3⟩, -⟩ := K6_4.out.four; obtain ⟨⟨d0, d1, d2, d3⟩, fr0, fr1, fr2, fr3⟩ := P4.out.blk.four)
            |(go_at_call 35; (with_reducible refine (Otr.out _ P4.out).mono ?_); rintro e w5 ⟨rfl, p, o⟩; have P5 := Lib.hid (p); have O5 := Lib.hid (O4.out.up o); have K4_5 := Lib.hid (K4_4.out.only o (by have := G4.out; omega)); have K6_5 := Lib.hid (K6_4.out.only o (by have := G6.out; omega)); clear p o; obtain ⟨⟨e0, e1, e2, e3⟩, -⟩ := K6_5.out.four; obtain ⟨⟨d0, d1, d2, d3⟩, fr0, fr1, fr2, fr3⟩ := P5.out.blk.four)
            |(go_at_call 35; (with_reducible refine (Ofa.out _ P5.out).mono ?_); rintro e w6 ⟨rfl, p, o⟩; have P6 := Lib.hid (p); have O6 := Lib.hid (O5.out.up o); have K4_6 := Lib.hid (K4_5.out.only o (by have := G4.out; omega)); have K6_6 := Lib.hid (K6_5.out.only o (by have := G6.out; omega)); clear p o; obtain ⟨⟨e0, e1, e2, e3⟩, -⟩ := K6_6.out.four; obtain ⟨⟨d0, d1, d2, d3⟩, fr0, fr1, fr2, fr3⟩ := P6.out.blk.four)
            |(go_at_call 35; (with_reducible refine (Ofu.out _ P6.out).mono ?_); rintro e w7 ⟨rfl, p, o⟩; have P7 := Lib.hid (p); have O7 := Lib.hid (O6.out.up o); have K4_7 := Lib.hid (K4_6.out.only o (by have := G4.out; omega)); have K6_7 := Lib.hid (K6_6.out.only o (by have := G6.out; omega)); clear p o; obtain ⟨⟨e0, e1, e2, e3⟩, -⟩ := K6_7.out.four; obtain ⟨⟨d0, d1, d2, d3⟩, fr0, fr1, fr2, fr3⟩ := P7.out.blk.four)
            |(go_at_call 35; (with_reducible refine (Olc.out _ P7.out).mono ?_); rintro e w8 ⟨rfl, p, o⟩; have P8 := Lib.hid (p); have O8 := Lib.hid (O7.out.up o); have K4_8 := Lib.hid (K4_7.out.only o (by have := G4.out; omega)); have K6_8 := Lib.hid (K6_7.out.only o (by have := G6.out; omega)); clear p o)
            |(go_at_call 73; (with_reducible refine (TA.out _ _ _ P8.out).mono ?_); rintro e w9 ⟨⟨v0, v1, v2, v3, v4, v5, v6, rfl, rd⟩, p, o, ii⟩; have P9 := Lib.hid (p); have O9 := Lib.hid (O8.out.up o); have K4_9 := Lib.hid (K4_8.out.only o (by have := G4.out; omega)); have K6_9 := Lib.hid (K6_8.out.only o (by have := G6.out; omega)); have Rx_9 := Lib.hid (wide_cells O8.out.size rd); have Ix := Lib.hid ii; have NB9 := Lib.hid (Blk.new w9 Z7 39); clear p o rd ii)
            |(refine wpList_store_row rfl 39 (.tmp 4) (.tmp 117) rfl W.heap.size #[v0, v1, v2, v3, v4, v5, v6] rfl rfl 39 _ K4_9.out sizeE rfl (ones7 (Rd.one_cells _ _ Rx_9.out)) ?_)
            |(refine wp_store_row 39 (.tmp 4) (.tmp 117) rfl W.heap.size #[v0, v1, v2, v3, v4, v5, v6] rfl rfl 39 _ K4_9.out sizeE rfl (ones7 (Rd.one_cells _ _ Rx_9.out)) ?_))
           refine bodyPost_ret (res7 rfl _ _ W.heap.size _ _ _ _ _ _ _ rfl (blk_row K4_9.out)) rfl ?_
           exact RE.end_ HG.out (Nat.le_refl _) (al_lt W (.cells Z7 39)) Rx_9.out P9.out (B0.out.up O9.out) (by have := Ix.out; rw [up_i] at this; omega)
         ·rw [if_pos rfl] at Ofu
          simp only [Bool.false_eq_true, ↓reduceIte]
          go_enter Try.func69, Try.ntmps69
          go_wp2_with (first
           |(go_at_call 34; (with_reducible refine (place_any P0.out).mono ?_); rintro e w1 ⟨rfl, sm⟩; have P1 := Lib.hid (P0.out.sm sm); have O1 := Lib.hid (O0.out.bel (sm.below _)); have K4_1 := Lib.hid (K4_0.out.sm sm); clear sm; obtain ⟨⟨c0, c1, c2, c3⟩, -⟩ := P1.out.blk.four; obtain ⟨t0, t1, t2, t3⟩ := TC.out _ P1.out; have A0 := keep_al TokZ c0; have A1 := keep_al TokZ c1; have E0 := keep_al TokZ t0; have E1 := keep_al TokZ t1; have E2 := keep_al TokZ t2; have E3 := keep_al TokZ t3; obtain ⟨⟨z0, z1, z2, z3⟩, y0, y1, y2, y3⟩ := (Blk.new w1 #[.int .i64 0, .string ⟨#[]⟩, .int .i64 0, .int .i64 0] 51).four; have G6 := Lib.hid (show g < w1.heap.size from Nat.lt_of_lt_of_le HW0.out O1.out.size)))
          go_region
          obtain ⟨w2, hw2, bb, K6_2⟩ := tokbox (w := w1) (g := g) (tg := tg) (c := c) (T := T) (st := st) #[.int .i64 t.kind, .string ⟨t.text.toArray⟩, .int .i64 t.n, .int .i64 (t.at_ : Int)]
          rw [← hw2]
          clear hw2 c0 c1 c2 c3 t0 t1 t2 t3 A0 A1 E0 E1 E2 E3 z0 z1 z2 z3 y0 y1 y2 y3
          have P2 := Lib.hid (P1.out.only (Only.of_below (F := fun _ => False) bb.out) (fun _ f => f.elim))
          have O2 := Lib.hid (O1.out.bel bb.out)
          have K4_2 := Lib.hid (K4_1.out.below bb.out K4_1.out.lt)
          obtain ⟨⟨d0, d1, d2, d3⟩, fr0, fr1, fr2, fr3⟩ := P2.out.blk.four
          obtain ⟨⟨e0, e1, e2, e3⟩, -⟩ := K6_2.out.four
          go_wp2_with (first
           |(go_at_call 35; (with_reducible refine (Olb.out _ P2.out).mono ?_); rintro e w3 ⟨rfl, p, o⟩; have P3 := Lib.hid (p); have O3 := Lib.hid (O2.out.up o); have K4_3 := Lib.hid (K4_2.out.only o (by have := G4.out; omega)); have K6_3 := Lib.hid (K6_2.out.only o (by have := G6.out; omega)); clear p o; obtain ⟨⟨e0, e1, e2, e3⟩, -⟩ := K6_3.out.four; obtain ⟨⟨d0, d1, d2, d3⟩, fr0, fr1, fr2, fr3⟩ := P3.out.blk.four)
           |(go_at_call 35; (with_reducible refine (Onl.out _ P3.out).mono ?_); rintro e w4 ⟨rfl, p, o⟩; have P4 := Lib.hid (p); have O4 := Lib.hid (O3.out.up o); have K4_4 := Lib.hid (K4_3.out.only o (by have := G4.out; omega)); have K6_4 := Lib.hid (K6_3.out.only o (by have := G6.out; omega)); clear p o; obtain ⟨⟨e0, e1, e2, e3⟩, -⟩ := K6_4.out.four; obtain ⟨⟨d0, d1, d2, d3⟩, fr0, fr1, fr2, fr3⟩ := P4.out.blk.four)
           |(go_at_call 35; (with_reducible refine (Otr.out _ P4.out).mono ?_); rintro e w5 ⟨rfl, p, o⟩; have P5 := Lib.hid (p); have O5 := Lib.hid (O4.out.up o); have K4_5 := Lib.hid (K4_4.out.only o (by have := G4.out; omega)); have K6_5 := Lib.hid (K6_4.out.only o (by have := G6.out; omega)); clear p o; obtain ⟨⟨e0, e1, e2, e3⟩, -⟩ := K6_5.out.four; obtain ⟨⟨d0, d1, d2, d3⟩, fr0, fr1, fr2, fr3⟩ := P5.out.blk.four)
           |(go_at_call 35; (with_reducible refine (Ofa.out _ P5.out).mono ?_); rintro e w6 ⟨rfl, p, o⟩; have P6 := Lib.hid (p); have O6 := Lib.hid (O5.out.up o); have K4_6 := Lib.hid (K4_5.out.only o (by have := G4.out; omega)); have K6_6 := Lib.hid (K6_5.out.only o (by have := G6.out; omega)); clear p o; obtain ⟨⟨e0, e1, e2, e3⟩, -⟩ := K6_6.out.four; obtain ⟨⟨d0, d1, d2, d3⟩, fr0, fr1, fr2, fr3⟩ := P6.out.blk.four)
           |(go_at_call 35; (with_reducible refine (Ofu.out _ P6.out).mono ?_); rintro e w7 ⟨rfl, p, o⟩; have P7 := Lib.hid (p); have O7 := Lib.hid (O6.out.up o); have K4_7 := Lib.hid (K4_6.out.only o (by have := G4.out; omega)); have K6_7 := Lib.hid (K6_6.out.only o (by have := G6.out; omega)); clear p o)
           |(go_at_call 50; (with_reducible refine (BO.out _ _ P7.out).mono ?_); rintro e w8 ⟨⟨u0, u1, rfl, rd⟩, p, o, ii⟩; have P8 := Lib.hid (p); have O8 := Lib.hid (O7.out.up o); have K4_8 := Lib.hid (K4_7.out.only o (by have := G4.out; omega)); have K6_8 := Lib.hid (K6_7.out.only o (by have := G6.out; omega)); have RFN := Lib.hid (oneF_cells w8 (place T st) (wide_cells O7.out.size rd) O8.out.size); have KF := Lib.hid (K4_8.out.below ((Below.refl _ w8).alloc (Nat.le_refl _) (.cells #[u0, u1] 36)) K4_8.out.lt); have PF := Lib.hid (P8.out.alloc (.cells #[u0, u1] 36)); have OF := Lib.hid (O8.out.alloc (.cells #[u0, u1] 36)); have Ix := Lib.hid ii; clear p o rd ii)
           |(refine wpList_store_row rfl 39 (.tmp 4) (.tmp 110) rfl W.heap.size #[.int .i64 7, .int .i64 (place T st), .int .i64 0, .string ⟨#[]⟩, .int .i64 0, .slice none 0 0, .slice (some ⟨w8.heap.size, 0, none⟩) 1 1] rfl rfl 39 _ KF.out sizeE rfl (ones7 (Rd.one_cells _ _ RFN.out)) ?_)
           |(refine wp_store_row 39 (.tmp 4) (.tmp 110) rfl W.heap.size #[.int .i64 7, .int .i64 (place T st), .int .i64 0, .string ⟨#[]⟩, .int .i64 0, .slice none 0 0, .slice (some ⟨w8.heap.size, 0, none⟩) 1 1] rfl rfl 39 _ KF.out sizeE rfl (ones7 (Rd.one_cells _ _ RFN.out)) ?_))
          refine bodyPost_ret (res7 rfl _ _ W.heap.size _ _ _ _ _ _ _ rfl (blk_row KF.out)) rfl ?_
          exact RE.end_ HG.out (Nat.le_refl _) (al_lt W (.cells Z7 39)) RFN.out PF.out (B0.out.up OF.out) (by have := Ix.out; rw [up_i] at this; exact Nat.le_trans (Nat.le_succ _) this)
        ·rw [if_pos rfl] at Ofa
         simp only [Bool.false_eq_true, ↓reduceIte]
         go_enter Try.func69, Try.ntmps69
         go_wp2_with (first
          |(go_at_call 34; (with_reducible refine (place_any P0.out).mono ?_); rintro e w1 ⟨rfl, sm⟩; have P1 := Lib.hid (P0.out.sm sm); have O1 := Lib.hid (O0.out.bel (sm.below _)); have K4_1 := Lib.hid (K4_0.out.sm sm); clear sm; obtain ⟨⟨c0, c1, c2, c3⟩, -⟩ := P1.out.blk.four; obtain ⟨t0, t1, t2, t3⟩ := TC.out _ P1.out; have A0 := keep_al TokZ c0; have A1 := keep_al TokZ c1; have E0 := keep_al TokZ t0; have E1 := keep_al TokZ t1; have E2 := keep_al TokZ t2; have E3 := keep_al TokZ t3; obtain ⟨⟨z0, z1, z2, z3⟩, y0, y1, y2, y3⟩ := (Blk.new w1 #[.int .i64 0, .string ⟨#[]⟩, .int .i64 0, .int .i64 0] 51).four; have G6 := Lib.hid (show g < w1.heap.size from Nat.lt_of_lt_of_le HW0.out O1.out.size)))
         go_region
         obtain ⟨w2, hw2, bb, K6_2⟩ := tokbox (w := w1) (g := g) (tg := tg) (c := c) (T := T) (st := st) #[.int .i64 t.kind, .string ⟨t.text.toArray⟩, .int .i64 t.n, .int .i64 (t.at_ : Int)]
         rw [← hw2]
         clear hw2 c0 c1 c2 c3 t0 t1 t2 t3 A0 A1 E0 E1 E2 E3 z0 z1 z2 z3 y0 y1 y2 y3
         have P2 := Lib.hid (P1.out.only (Only.of_below (F := fun _ => False) bb.out) (fun _ f => f.elim))
         have O2 := Lib.hid (O1.out.bel bb.out)
         have K4_2 := Lib.hid (K4_1.out.below bb.out K4_1.out.lt)
         obtain ⟨⟨d0, d1, d2, d3⟩, fr0, fr1, fr2, fr3⟩ := P2.out.blk.four
         obtain ⟨⟨e0, e1, e2, e3⟩, -⟩ := K6_2.out.four
         go_wp2_with (first
          |(go_at_call 35; (with_reducible refine (Olb.out _ P2.out).mono ?_); rintro e w3 ⟨rfl, p, o⟩; have P3 := Lib.hid (p); have O3 := Lib.hid (O2.out.up o); have K4_3 := Lib.hid (K4_2.out.only o (by have := G4.out; omega)); have K6_3 := Lib.hid (K6_2.out.only o (by have := G6.out; omega)); clear p o; obtain ⟨⟨e0, e1, e2, e3⟩, -⟩ := K6_3.out.four; obtain ⟨⟨d0, d1, d2, d3⟩, fr0, fr1, fr2, fr3⟩ := P3.out.blk.four)
          |(go_at_call 35; (with_reducible refine (Onl.out _ P3.out).mono ?_); rintro e w4 ⟨rfl, p, o⟩; have P4 := Lib.hid (p); have O4 := Lib.hid (O3.out.up o); have K4_4 := Lib.hid (K4_3.out.only o (by have := G4.out; omega)); have K6_4 := Lib.hid (K6_3.out.only o (by have := G6.out; omega)); clear p o; obtain ⟨⟨e0, e1, e2, e3⟩, -⟩ := K6_4.out.four; obtain ⟨⟨d0, d1, d2, d3⟩, fr0, fr1, fr2, fr3⟩ := P4.out.blk.four)
          |(go_at_call 35; (with_reducible refine (Otr.out _ P4.out).mono ?_); rintro e w5 ⟨rfl, p, o⟩; have P5 := Lib.hid (p); have O5 := Lib.hid (O4.out.up o); have K4_5 := Lib.hid (K4_4.out.only o (by have := G4.out; omega)); have K6_5 := Lib.hid (K6_4.out.only o (by have := G6.out; omega)); clear p o; obtain ⟨⟨e0, e1, e2, e3⟩, -⟩ := K6_5.out.four; obtain ⟨⟨d0, d1, d2, d3⟩, fr0, fr1, fr2, fr3⟩ := P5.out.blk.four)
          |(go_at_call 35; (with_reducible refine (Ofa.out _ P5.out).mono ?_); rintro e w6 ⟨rfl, p, o⟩; have P6 := Lib.hid (p); have O6 := Lib.hid (O5.out.up o); have K4_6 := Lib.hid (K4_5.out.only o (by have := G4.out; omega)); have K6_6 := Lib.hid (K6_5.out.only o (by have := G6.out; omega)); clear p o)
          |(refine wpList_store_row rfl 39 (.tmp 4) (.tmp 101) rfl W.heap.size #[.int .i64 3, .int .i64 (place T st), .int .i64 0, .string ⟨#[]⟩, .int .i64 0, .slice none 0 0, .slice none 0 0] rfl rfl 39 _ K4_6.out sizeE rfl (ones7 (Rd.one_cells _ _ (RZ.out w6 3 (place T st) 0 ⟨#[]⟩ 0))) ?_)
          |(refine wp_store_row 39 (.tmp 4) (.tmp 101) rfl W.heap.size #[.int .i64 3, .int .i64 (place T st), .int .i64 0, .string ⟨#[]⟩, .int .i64 0, .slice none 0 0, .slice none 0 0] rfl rfl 39 _ K4_6.out sizeE rfl (ones7 (Rd.one_cells _ _ (RZ.out w6 3 (place T st) 0 ⟨#[]⟩ 0))) ?_))
         refine bodyPost_ret (res7 rfl _ _ W.heap.size _ _ _ _ _ _ _ rfl (blk_row K4_6.out)) rfl ?_
         exact RE.end_ HG.out (Nat.le_refl _) (al_lt W (.cells Z7 39)) (RZ.out w6 3 (place T st) 0 ⟨#[]⟩ 0) P6.out (B0.out.up O6.out) (by rw [up_i]; omega)
       ·rw [if_pos rfl] at Otr
        simp only [Bool.false_eq_true, ↓reduceIte]
        go_enter Try.func69, Try.ntmps69
        go_wp2_with (first
         |(go_at_call 34; (with_reducible refine (place_any P0.out).mono ?_); rintro e w1 ⟨rfl, sm⟩; have P1 := Lib.hid (P0.out.sm sm); have O1 := Lib.hid (O0.out.bel (sm.below _)); have K4_1 := Lib.hid (K4_0.out.sm sm); clear sm; obtain ⟨⟨c0, c1, c2, c3⟩, -⟩ := P1.out.blk.four; obtain ⟨t0, t1, t2, t3⟩ := TC.out _ P1.out; have A0 := keep_al TokZ c0; have A1 := keep_al TokZ c1; have E0 := keep_al TokZ t0; have E1 := keep_al TokZ t1; have E2 := keep_al TokZ t2; have E3 := keep_al TokZ t3; obtain ⟨⟨z0, z1, z2, z3⟩, y0, y1, y2, y3⟩ := (Blk.new w1 #[.int .i64 0, .string ⟨#[]⟩, .int .i64 0, .int .i64 0] 51).four; have G6 := Lib.hid (show g < w1.heap.size from Nat.lt_of_lt_of_le HW0.out O1.out.size)))
        go_region
        obtain ⟨w2, hw2, bb, K6_2⟩ := tokbox (w := w1) (g := g) (tg := tg) (c := c) (T := T) (st := st) #[.int .i64 t.kind, .string ⟨t.text.toArray⟩, .int .i64 t.n, .int .i64 (t.at_ : Int)]
        rw [← hw2]
        clear hw2 c0 c1 c2 c3 t0 t1 t2 t3 A0 A1 E0 E1 E2 E3 z0 z1 z2 z3 y0 y1 y2 y3
        have P2 := Lib.hid (P1.out.only (Only.of_below (F := fun _ => False) bb.out) (fun _ f => f.elim))
        have O2 := Lib.hid (O1.out.bel bb.out)
        have K4_2 := Lib.hid (K4_1.out.below bb.out K4_1.out.lt)
        obtain ⟨⟨d0, d1, d2, d3⟩, fr0, fr1, fr2, fr3⟩ := P2.out.blk.four
        obtain ⟨⟨e0, e1, e2, e3⟩, -⟩ := K6_2.out.four
        go_wp2_with (first
         |(go_at_call 35; (with_reducible refine (Olb.out _ P2.out).mono ?_); rintro e w3 ⟨rfl, p, o⟩; have P3 := Lib.hid (p); have O3 := Lib.hid (O2.out.up o); have K4_3 := Lib.hid (K4_2.out.only o (by have := G4.out; omega)); have K6_3 := Lib.hid (K6_2.out.only o (by have := G6.out; omega)); clear p o; obtain ⟨⟨e0, e1, e2, e3⟩, -⟩ := K6_3.out.four; obtain ⟨⟨d0, d1, d2, d3⟩, fr0, fr1, fr2, fr3⟩ := P3.out.blk.four)
         |(go_at_call 35; (with_reducible refine (Onl.out _ P3.out).mono ?_); rintro e w4 ⟨rfl, p, o⟩; have P4 := Lib.hid (p); have O4 := Lib.hid (O3.out.up o); have K4_4 := Lib.hid (K4_3.out.only o (by have := G4.out; omega)); have K6_4 := Lib.hid (K6_3.out.only o (by have := G6.out; omega)); clear p o; obtain ⟨⟨e0, e1, e2, e3⟩, -⟩ := K6_4.out.four; obtain ⟨⟨d0, d1, d2, d3⟩, fr0, fr1, fr2, fr3⟩ := P4.out.blk.four)
         |(go_at_call 35; (with_reducible refine (Otr.out _ P4.out).mono ?_); rintro e w5 ⟨rfl, p, o⟩; have P5 := Lib.hid (p); have O5 := Lib.hid (O4.out.up o); have K4_5 := Lib.hid (K4_4.out.only o (by have := G4.out; omega)); have K6_5 := Lib.hid (K6_4.out.only o (by have := G6.out; omega)); clear p o)
         |(refine wpList_store_row rfl 39 (.tmp 4) (.tmp 96) rfl W.heap.size #[.int .i64 2, .int .i64 (place T st), .int .i64 0, .string ⟨#[]⟩, .int .i64 0, .slice none 0 0, .slice none 0 0] rfl rfl 39 _ K4_5.out sizeE rfl (ones7 (Rd.one_cells _ _ (RZ.out w5 2 (place T st) 0 ⟨#[]⟩ 0))) ?_)
         |(refine wp_store_row 39 (.tmp 4) (.tmp 96) rfl W.heap.size #[.int .i64 2, .int .i64 (place T st), .int .i64 0, .string ⟨#[]⟩, .int .i64 0, .slice none 0 0, .slice none 0 0] rfl rfl 39 _ K4_5.out sizeE rfl (ones7 (Rd.one_cells _ _ (RZ.out w5 2 (place T st) 0 ⟨#[]⟩ 0))) ?_))
        refine bodyPost_ret (res7 rfl _ _ W.heap.size _ _ _ _ _ _ _ rfl (blk_row K4_5.out)) rfl ?_
        exact RE.end_ HG.out (Nat.le_refl _) (al_lt W (.cells Z7 39)) (RZ.out w5 2 (place T st) 0 ⟨#[]⟩ 0) P5.out (B0.out.up O5.out) (by rw [up_i]; omega)
      ·rw [if_pos rfl] at Onl
       simp only [Bool.false_eq_true, ↓reduceIte]
       go_enter Try.func69, Try.ntmps69
       go_wp2_with (first
        |(go_at_call 34; (with_reducible refine (place_any P0.out).mono ?_); rintro e w1 ⟨rfl, sm⟩; have P1 := Lib.hid (P0.out.sm sm); have O1 := Lib.hid (O0.out.bel (sm.below _)); have K4_1 := Lib.hid (K4_0.out.sm sm); clear sm; obtain ⟨⟨c0, c1, c2, c3⟩, -⟩ := P1.out.blk.four; obtain ⟨t0, t1, t2, t3⟩ := TC.out _ P1.out; have A0 := keep_al TokZ c0; have A1 := keep_al TokZ c1; have E0 := keep_al TokZ t0; have E1 := keep_al TokZ t1; have E2 := keep_al TokZ t2; have E3 := keep_al TokZ t3; obtain ⟨⟨z0, z1, z2, z3⟩, y0, y1, y2, y3⟩ := (Blk.new w1 #[.int .i64 0, .string ⟨#[]⟩, .int .i64 0, .int .i64 0] 51).four; have G6 := Lib.hid (show g < w1.heap.size from Nat.lt_of_lt_of_le HW0.out O1.out.size)))
       go_region
       obtain ⟨w2, hw2, bb, K6_2⟩ := tokbox (w := w1) (g := g) (tg := tg) (c := c) (T := T) (st := st) #[.int .i64 t.kind, .string ⟨t.text.toArray⟩, .int .i64 t.n, .int .i64 (t.at_ : Int)]
       rw [← hw2]
       clear hw2 c0 c1 c2 c3 t0 t1 t2 t3 A0 A1 E0 E1 E2 E3 z0 z1 z2 z3 y0 y1 y2 y3
       have P2 := Lib.hid (P1.out.only (Only.of_below (F := fun _ => False) bb.out) (fun _ f => f.elim))
       have O2 := Lib.hid (O1.out.bel bb.out)
       have K4_2 := Lib.hid (K4_1.out.below bb.out K4_1.out.lt)
       obtain ⟨⟨d0, d1, d2, d3⟩, fr0, fr1, fr2, fr3⟩ := P2.out.blk.four
       obtain ⟨⟨e0, e1, e2, e3⟩, -⟩ := K6_2.out.four
       go_wp2_with (first
        |(go_at_call 35; (with_reducible refine (Olb.out _ P2.out).mono ?_); rintro e w3 ⟨rfl, p, o⟩; have P3 := Lib.hid (p); have O3 := Lib.hid (O2.out.up o); have K4_3 := Lib.hid (K4_2.out.only o (by have := G4.out; omega)); have K6_3 := Lib.hid (K6_2.out.only o (by have := G6.out; omega)); clear p o; obtain ⟨⟨e0, e1, e2, e3⟩, -⟩ := K6_3.out.four; obtain ⟨⟨d0, d1, d2, d3⟩, fr0, fr1, fr2, fr3⟩ := P3.out.blk.four)
        |(go_at_call 35; (with_reducible refine (Onl.out _ P3.out).mono ?_); rintro e w4 ⟨rfl, p, o⟩; have P4 := Lib.hid (p); have O4 := Lib.hid (O3.out.up o); have K4_4 := Lib.hid (K4_3.out.only o (by have := G4.out; omega)); have K6_4 := Lib.hid (K6_3.out.only o (by have := G6.out; omega)); clear p o)
        |(refine wpList_store_row rfl 39 (.tmp 4) (.tmp 91) rfl W.heap.size #[.int .i64 1, .int .i64 (place T st), .int .i64 0, .string ⟨#[]⟩, .int .i64 0, .slice none 0 0, .slice none 0 0] rfl rfl 39 _ K4_4.out sizeE rfl (ones7 (Rd.one_cells _ _ (RZ.out w4 1 (place T st) 0 ⟨#[]⟩ 0))) ?_)
        |(refine wp_store_row 39 (.tmp 4) (.tmp 91) rfl W.heap.size #[.int .i64 1, .int .i64 (place T st), .int .i64 0, .string ⟨#[]⟩, .int .i64 0, .slice none 0 0, .slice none 0 0] rfl rfl 39 _ K4_4.out sizeE rfl (ones7 (Rd.one_cells _ _ (RZ.out w4 1 (place T st) 0 ⟨#[]⟩ 0))) ?_))
       refine bodyPost_ret (res7 rfl _ _ W.heap.size _ _ _ _ _ _ _ rfl (blk_row K4_4.out)) rfl ?_
       exact RE.end_ HG.out (Nat.le_refl _) (al_lt W (.cells Z7 39)) (RZ.out w4 1 (place T st) 0 ⟨#[]⟩ 0) P4.out (B0.out.up O4.out) (by rw [up_i]; omega)
   ·rw [if_pos rfl] at Olb
    simp only [Bool.false_eq_true, ↓reduceIte]
    go_enter Try.func69, Try.ntmps69
    go_wp2_with (first
     |(go_at_call 34; (with_reducible refine (place_any P0.out).mono ?_); rintro e w1 ⟨rfl, sm⟩; have P1 := Lib.hid (P0.out.sm sm); have O1 := Lib.hid (O0.out.bel (sm.below _)); have K4_1 := Lib.hid (K4_0.out.sm sm); clear sm; obtain ⟨⟨c0, c1, c2, c3⟩, -⟩ := P1.out.blk.four; obtain ⟨t0, t1, t2, t3⟩ := TC.out _ P1.out; have A0 := keep_al TokZ c0; have A1 := keep_al TokZ c1; have E0 := keep_al TokZ t0; have E1 := keep_al TokZ t1; have E2 := keep_al TokZ t2; have E3 := keep_al TokZ t3; obtain ⟨⟨z0, z1, z2, z3⟩, y0, y1, y2, y3⟩ := (Blk.new w1 #[.int .i64 0, .string ⟨#[]⟩, .int .i64 0, .int .i64 0] 51).four; have G6 := Lib.hid (show g < w1.heap.size from Nat.lt_of_lt_of_le HW0.out O1.out.size)))
    go_region
    obtain ⟨w2, hw2, bb, K6_2⟩ := tokbox (w := w1) (g := g) (tg := tg) (c := c) (T := T) (st := st) #[.int .i64 t.kind, .string ⟨t.text.toArray⟩, .int .i64 t.n, .int .i64 (t.at_ : Int)]
    rw [← hw2]
    clear hw2 c0 c1 c2 c3 t0 t1 t2 t3 A0 A1 E0 E1 E2 E3 z0 z1 z2 z3 y0 y1 y2 y3
    have P2 := Lib.hid (P1.out.only (Only.of_below (F := fun _ => False) bb.out) (fun _ f => f.elim))
    have O2 := Lib.hid (O1.out.bel bb.out)
    have K4_2 := Lib.hid (K4_1.out.below bb.out K4_1.out.lt)
    obtain ⟨⟨d0, d1, d2, d3⟩, fr0, fr1, fr2, fr3⟩ := P2.out.blk.four
    obtain ⟨⟨e0, e1, e2, e3⟩, -⟩ := K6_2.out.four
    go_wp2_with (first
     |(go_at_call 35; (with_reducible refine (Olb.out _ P2.out).mono ?_); rintro e w3 ⟨rfl, p, o⟩; have P3 := Lib.hid (p); have O3 := Lib.hid (O2.out.up o); have K4_3 := Lib.hid (K4_2.out.only o (by have := G4.out; omega)); have K6_3 := Lib.hid (K6_2.out.only o (by have := G6.out; omega)); clear p o)
     |(go_at_call 37; (with_reducible refine (EX.out _ _ P3.out).mono ?_); rintro e w4 ⟨⟨v0, v1, v2, v3, v4, v5, v6, rfl, rd⟩, p, o, ii⟩; have P4 := Lib.hid (p); have O4 := Lib.hid (O3.out.up o); have K4_4 := Lib.hid (K4_3.out.only o (by have := G4.out; omega)); have K6_4 := Lib.hid (K6_3.out.only o (by have := G6.out; omega)); have Rx_4 := Lib.hid (wide_cells O3.out.size rd); have Ix := Lib.hid ii; have NB4 := Lib.hid (Blk.new w4 Z7 39); clear p o rd ii)
     |(refine wpList_store_row rfl 39 (.tmp 7) (.tmp 50) rfl w4.heap.size #[v0, v1, v2, v3, v4, v5, v6] rfl rfl 39 _ NB4.out sizeE rfl (ones7 (Rd.one_cells _ _ Rx_4.out)) ?_; obtain ⟨w5, hw, bb, K7_5, ss⟩ := box7 w4 #[v0, v1, v2, v3, v4, v5, v6] Z7; rw [← hw]; clear hw NB4; have G7 := Lib.hid (show g < w4.heap.size from Nat.lt_of_lt_of_le HW0.out O4.out.size); have P5 := Lib.hid (P4.out.only (Only.of_below (F := fun _ => False) bb.out) (fun _ f => f.elim)); have O5 := Lib.hid (O4.out.bel bb.out); have K4_5 := Lib.hid (K4_4.out.below bb.out K4_4.out.lt); have K6_5 := Lib.hid (K6_4.out.below bb.out K6_4.out.lt); have Rx_5 := Lib.hid (mv_below bb.out Rx_4.out); clear bb ss)
     |(go_at_call 51; (with_reducible refine (TR.out _ _ P5.out).mono ?_); rintro e w6 ⟨rfl, p, o⟩; have P6 := Lib.hid (p); have O6 := Lib.hid (O5.out.up o); have K4_6 := Lib.hid (K4_5.out.only o (by have := G4.out; omega)); have K6_6 := Lib.hid (K6_5.out.only o (by have := G6.out; omega)); have K7_6 := Lib.hid (K7_5.out.only o (by have := G7.out; omega)); have Rx_6 := Lib.hid (mv_cells o HW0.out Rx_5.out); clear p o; obtain ⟨⟨a0, a1, a2, a3, a4, a5, a6⟩, -⟩ := K7_6.out.seven)
     |(go_at_call 52; (with_reducible refine (BH.out _ _ _ _ v0 v1 v2 v3 v4 v5 v6 P6.out Rx_6.out NG.out).mono ?_); rintro e w7 ⟨⟨u0, u1, u2, u3, u4, u5, u6, rfl, rd⟩, p, o, ii⟩; have P7 := Lib.hid (p); have O7 := Lib.hid (O6.out.up o); have K4_7 := Lib.hid (K4_6.out.only o (by have := G4.out; omega)); have K6_7 := Lib.hid (K6_6.out.only o (by have := G6.out; omega)); have K7_7 := Lib.hid (K7_6.out.only o (by have := G7.out; omega)); have Rx_7 := Lib.hid (mv_cells o HW0.out Rx_6.out); have Ry_7 := Lib.hid (wide_or O6.out.size rd); have Iy := Lib.hid ii; clear p o rd ii)
     |(refine wpList_store_row rfl 39 (.tmp 4) (.tmp 56) rfl W.heap.size #[u0, u1, u2, u3, u4, u5, u6] rfl rfl 39 _ K4_7.out sizeE rfl (ones7 (Rd.one_cells _ _ Ry_7.out)) ?_)
     |(refine wp_store_row 39 (.tmp 4) (.tmp 56) rfl W.heap.size #[u0, u1, u2, u3, u4, u5, u6] rfl rfl 39 _ K4_7.out sizeE rfl (ones7 (Rd.one_cells _ _ Ry_7.out)) ?_))
    refine bodyPost_ret (res7 rfl _ _ W.heap.size _ _ _ _ _ _ _ rfl (blk_row K4_7.out)) rfl ?_
    exact RE.end_ HG.out (Nat.le_refl _) (al_lt W (.cells Z7 39)) Ry_7.out P7.out (B0.out.up O7.out) (by have h1 := Ix.out; have h2 := Iy.out; have h3 := take_i (T := T) ⟨#[41]⟩ ((fs T F).exp (d : Int) (up st)).2; rw [up_i] at h1; omega)
 ·rw [if_pos (by simpa using q)]
  have q1 : (st.code != 0) = true := by simpa using q
  clear q hc0
  go_enter Try.func69, Try.ntmps69
  go_wp2_with (first
   |(go_at_call 34; (with_reducible refine (place_any P0.out).mono ?_); rintro e w1 ⟨rfl, sm⟩; have P1 := Lib.hid (P0.out.sm sm); have O1 := Lib.hid (O0.out.bel (sm.below _)); have K4_1 := Lib.hid (K4_0.out.sm sm); clear sm; obtain ⟨⟨c0, c1, c2, c3⟩, -⟩ := P1.out.blk.four; obtain ⟨t0, t1, t2, t3⟩ := TC.out _ P1.out; have A0 := keep_al TokZ c0; have A1 := keep_al TokZ c1; have E0 := keep_al TokZ t0; have E1 := keep_al TokZ t1; have E2 := keep_al TokZ t2; have E3 := keep_al TokZ t3; obtain ⟨⟨z0, z1, z2, z3⟩, y0, y1, y2, y3⟩ := (Blk.new w1 #[.int .i64 0, .string ⟨#[]⟩, .int .i64 0, .int .i64 0] 51).four; have G6 := Lib.hid (show g < w1.heap.size from Nat.lt_of_lt_of_le HW0.out O1.out.size)))
  go_region
  obtain ⟨w2, hw2, bb, K6_2⟩ := tokbox (w := w1) (g := g) (tg := tg) (c := c) (T := T) (st := st) #[.int .i64 t.kind, .string ⟨t.text.toArray⟩, .int .i64 t.n, .int .i64 (t.at_ : Int)]
  rw [← hw2]
  clear hw2 c0 c1 c2 c3 t0 t1 t2 t3 A0 A1 E0 E1 E2 E3 z0 z1 z2 z3 y0 y1 y2 y3
  have P2 := Lib.hid (P1.out.only (Only.of_below (F := fun _ => False) bb.out) (fun _ f => f.elim))
  have O2 := Lib.hid (O1.out.bel bb.out)
  have K4_2 := Lib.hid (K4_1.out.below bb.out K4_1.out.lt)
  obtain ⟨⟨d0, d1, d2, d3⟩, fr0, fr1, fr2, fr3⟩ := P2.out.blk.four
  obtain ⟨⟨e0, e1, e2, e3⟩, -⟩ := K6_2.out.four
  go_wp2_with (first
   |(refine wpList_store_row rfl 39 (.tmp 4) (.tmp 26) rfl W.heap.size Z7 rfl rfl 39 _ K4_2.out sizeE rfl (ones7 (Rd.one_cells _ _ (RZ.out w2 0 0 0 ⟨#[]⟩ 0))) ?_)
   |(refine wp_store_row 39 (.tmp 4) (.tmp 26) rfl W.heap.size Z7 rfl rfl 39 _ K4_2.out sizeE rfl (ones7 (Rd.one_cells _ _ (RZ.out w2 0 0 0 ⟨#[]⟩ 0))) ?_))
  refine bodyPost_ret (res7 rfl _ _ W.heap.size _ _ _ _ _ _ _ rfl (blk_row K4_2.out)) rfl ?_
  exact RE.end_ HG.out (Nat.le_refl _) (al_lt W (.cells Z7 39)) (RZ.out w2 0 0 0 ⟨#[]⟩ 0) P2.out (B0.out.up O2.out) (Nat.le_refl _)
end
end Go.Proofs.Yteakhlnnepjhpaa
