/- Texts of one proof behind one another: PrX6, PrXi. -/
import Derived.Test.YteakhlnnepjhpaaKo
/- The document's parser: statements: for over a table (printed by genpr11.py). -/
namespace Go.Proofs.Yteakhlnnepjhpaa
open Go.RowKit PrM
set_option linter.unusedVariables false
set_option linter.unusedSimpArgs false
section
variable {F g tg c : Nat} {T : List LxM.T}
set_option maxRecDepth 20000 in
set_option maxHeartbeats 16000000 in
theorem stat_each (hG : PrM.Good T) (hF : OkF g tg c T F) (W : World) (st : St) (a : Int) (b d : Nat) (h : PS W g tg c T st) (hb : Blk W b #[.int .i64 0, .int .i64 a, .slice none 0 0, .slice none 0 0, .slice none 0 0] 42) (hgb : g < b) (h0 : st.code = 0) (hd : d ≤ 100) (hm : 100 * (101 - d) + 6 ≤ F + 1) (q0 : is T ⟨#[108, 111, 99, 97, 108]⟩ st = false) (q1 : is T ⟨#[105, 102]⟩ st = false) (q2 : is T ⟨#[119, 104, 105, 108, 101]⟩ st = false) (q3 : is T ⟨#[114, 101, 112, 101, 97, 116]⟩ st = false) (q4 : is T ⟨#[102, 111, 114]⟩ st = true) (hc1 : is T ⟨#[44]⟩ (nameS T (up st)) = true) :
  Calls Try.prog 38 #[ptr g, ptr b, .int .i64 (d : Int)] W (SQ W g b tg c T st ((fs T (F + 1)).stat (.s 0 a [] .nil .nil) d st)) := by
 have e1 : (fs T (F + 1)).stat (.s 0 a [] .nil .nil) d st = statS T (fs T F) d a st := rfl
 rw [e1]
 unfold PrM.statS
 rw [q0, if_neg (show ¬ (false = true) from nofun), q1, if_neg (show ¬ (false = true) from nofun), q2, if_neg (show ¬ (false = true) from nofun), q3, if_neg (show ¬ (false = true) from nofun), q4, if_pos rfl]
 dsimp only
 rw [hc1, if_pos rfl]
 clear e1
 have EX := Lib.hid (fun W1 st1 (h1 : PS W1 g tg c T st1) => hF.exp W1 st1 d h1 hd (by omega))
 have BL := Lib.hid (fun W1 st1 (h1 : PS W1 g tg c T st1) => hF.block W1 st1 d h1 hd (by omega))
 have BO := Lib.hid (fun W1 st1 (h1 : PS W1 g tg c T st1) => hF.body W1 st1 d h1 hd (by omega))
 have BH := Lib.hid (fun W1 st1 P x v0 v1 v2 v3 v4 v5 v6 (h1 : PS W1 g tg c T st1) hr hp => hF.behind W1 st1 P x v0 v1 v2 v3 v4 v5 v6 d h1 hr hp hd (by omega))
 generalize (fs T F).exp (d : Int) = ex at *
 generalize (fs T F).block (d : Int) = bl at *
 generalize (fs T F).body (d : Int) = bo at *
 have HG := Lib.hid h.blk.lt
 have HB := Lib.hid hb.lt
 have HGB := Lib.hid hgb
 have HGG := Lib.hid hG
 have HFG : Hid (∀ k, k = g → k < W.heap.size) := Lib.hid (fun k e => e ▸ HG.out)
 have HFB : Hid (∀ k, k = b → k < W.heap.size) := Lib.hid (fun k e => e ▸ HB.out)
 have P0 := Lib.hid h
 have O0 := Lib.hid (Only.refl (fun k => k = g ∨ k = b) W)
 have KB0 := Lib.hid hb
 have i0 : (0 : Int) ≤ (d : Int) := by omega
 have i1 : (d : Int) ≤ 100 := by omega
 have OQ0 := Lib.hid (fun W1 (h1 : PS W1 g tg c T st) => opt_any h1 HGG.out ⟨#[108, 111, 99, 97, 108]⟩)
 have OQ1 := Lib.hid (fun W1 (h1 : PS W1 g tg c T st) => opt_any h1 HGG.out ⟨#[105, 102]⟩)
 have OQ2 := Lib.hid (fun W1 (h1 : PS W1 g tg c T st) => opt_any h1 HGG.out ⟨#[119, 104, 105, 108, 101]⟩)
 have OQ3 := Lib.hid (fun W1 (h1 : PS W1 g tg c T st) => opt_any h1 HGG.out ⟨#[114, 101, 112, 101, 97, 116]⟩)
 have OQ4 := Lib.hid (fun W1 (h1 : PS W1 g tg c T st) => opt_any h1 HGG.out ⟨#[102, 111, 114]⟩)
 unfold PrM.opt at OQ0 OQ1 OQ2 OQ3 OQ4
 rw [q0, if_neg (show ¬ (false = true) from nofun)] at OQ0
 rw [q1, if_neg (show ¬ (false = true) from nofun)] at OQ1
 rw [q2, if_neg (show ¬ (false = true) from nofun)] at OQ2
 rw [q3, if_neg (show ¬ (false = true) from nofun)] at OQ3
 rw [q4, if_pos rfl] at OQ4
 clear h hb hgb hG hF hm hd h0 q0 q1 q2 q3 q4
 have NA := Lib.hid (fun W1 (h1 : PS W1 g tg c T (up st)) => name_any h1 HGG.out)
 have HNI := Lib.hid (name_i (T := T) (up st))
 generalize nameT T (up st) = nm at *
 generalize nameS T (up st) = s1 at *
 have OC1 := Lib.hid (fun W1 (h1 : PS W1 g tg c T s1) => opt_any h1 HGG.out ⟨#[44]⟩)
 unfold PrM.opt at OC1
 rw [hc1, if_pos rfl] at OC1
 clear hc1
 have HUP := Lib.hid (show (up s1).i = s1.i + 1 from rfl)
 have NB := Lib.hid (fun W1 (h1 : PS W1 g tg c T (up s1)) => name_any h1 HGG.out)
 have HNI2 := Lib.hid (name_i (T := T) (up s1))
 generalize nameT T (up s1) = nm2 at *
 generalize nameS T (up s1) = s2 at *
 have TI := Lib.hid (fun W1 (h1 : PS W1 g tg c T s2) => take_any h1 HGG.out ⟨#[105, 110]⟩)
 have HTI := Lib.hid (take_i2 (T := T) ⟨#[105, 110]⟩ s2)
 generalize PrM.take T ⟨#[105, 110]⟩ s2 = s3 at *
 have EX1 := Lib.hid (fun W1 (h1 : PS W1 g tg c T s3) => EX.out W1 _ h1)
 generalize ex s3 = r at *
 have TD := Lib.hid (fun W1 (h1 : PS W1 g tg c T r.2) => take_any h1 HGG.out ⟨#[100, 111]⟩)
 have HTD := Lib.hid (take_i2 (T := T) ⟨#[100, 111]⟩ r.2)
 generalize PrM.take T ⟨#[100, 111]⟩ r.2 = s5 at *
 have BL2 := Lib.hid (fun W1 (h1 : PS W1 g tg c T s5) => BL.out W1 _ h1)
 generalize bl s5 = p4 at *
 have TN := Lib.hid (fun W1 (h1 : PS W1 g tg c T p4.2) => take_any h1 HGG.out ⟨#[101, 110, 100]⟩)
 have HTN := Lib.hid (take_i2 (T := T) ⟨#[101, 110, 100]⟩ p4.2)
 generalize PrM.take T ⟨#[101, 110, 100]⟩ p4.2 = s7 at *
 try dsimp only
 go_enter Try.func38, Try.ntmps38
 go_wp2_with (first
  |(go_at_call 35; (with_reducible refine (OQ0.out _ P0.out).mono ?_); rintro e w1 ⟨rfl, p, o⟩; have P1 := Lib.hid p; have O1 := Lib.hid (O0.out.trans o (fun n f => .inl (.inl f))); have KB1 := Lib.hid (KB0.out.only o (by have := HGB.out; omega)); clear p o)
  |(go_at_call 35; (with_reducible refine (OQ1.out _ P1.out).mono ?_); rintro e w2 ⟨rfl, p, o⟩; have P2 := Lib.hid p; have O2 := Lib.hid (O1.out.trans o (fun n f => .inl (.inl f))); have KB2 := Lib.hid (KB1.out.only o (by have := HGB.out; omega)); clear p o)
  |(go_at_call 35; (with_reducible refine (OQ2.out _ P2.out).mono ?_); rintro e w3 ⟨rfl, p, o⟩; have P3 := Lib.hid p; have O3 := Lib.hid (O2.out.trans o (fun n f => .inl (.inl f))); have KB3 := Lib.hid (KB2.out.only o (by have := HGB.out; omega)); clear p o)
  |(go_at_call 35; (with_reducible refine (OQ3.out _ P3.out).mono ?_); rintro e w4 ⟨rfl, p, o⟩; have P4 := Lib.hid p; have O4 := Lib.hid (O3.out.trans o (fun n f => .inl (.inl f))); have KB4 := Lib.hid (KB3.out.only o (by have := HGB.out; omega)); clear p o)
  |(go_at_call 35; (with_reducible refine (OQ4.out _ P4.out).mono ?_); rintro e w5 ⟨rfl, p, o⟩; have P5 := Lib.hid p; have O5 := Lib.hid (O4.out.trans o (fun n f => .inl (.inl f))); have KB5 := Lib.hid (KB4.out.only o (by have := HGB.out; omega)); clear p o)
  |(go_at_call 49; (with_reducible refine (NA.out _ P5.out).mono ?_); rintro e w6 ⟨rfl, p, o⟩; have P6 := Lib.hid p; have O6 := Lib.hid (O5.out.trans o (fun n f => .inl (.inl f))); have KB6 := Lib.hid (KB5.out.only o (by have := HGB.out; omega)); clear p o; have SN_7 := Lib.hid (rnOne O6.out.size nm); have P7 := Lib.hid (P6.out.alloc (.cells #[.string nm] 9)); have O7 := Lib.hid (O6.out.alloc (.cells #[.string nm] 9)); have KB7 := Lib.hid (blk_al (.cells #[.string nm] 9) KB6.out); obtain ⟨⟨z0_7, z1_7, z2_7, z3_7, z4_7⟩, f0_7, f1_7, f2_7, f3_7, f4_7⟩ := KB7.out.five; have ob := only_cell (w6.alloc (.cells #[.string nm] 9)) b 2 (.slice (some ⟨w6.heap.size, 0, none⟩) 1 1); have P8 := Lib.hid (P7.out.only ob (fun i e => .inl (by have := HGB.out; omega))); have O8 := Lib.hid (O7.out.trans ob (fun n f => .inl (.inr f))); have KB8 := Lib.hid (blkF2 KB7.out (.slice (some ⟨w6.heap.size, 0, none⟩) 1 1)); have SN_8 := Lib.hid (rnMv HFB.out ob SN_7.out); clear ob; have ob := only_cell ((w6.alloc (.cells #[.string nm] 9)).setCell ⟨b, 2, none⟩ (.slice (some ⟨w6.heap.size, 0, none⟩) 1 1)) b 0 (.int .i64 6); have P9 := Lib.hid (P8.out.only ob (fun i e => .inl (by have := HGB.out; omega))); have O9 := Lib.hid (O8.out.trans ob (fun n f => .inl (.inr f))); have KB9 := Lib.hid (blkF0 KB8.out (.int .i64 6)); have SN_9 := Lib.hid (rnMv HFB.out ob SN_8.out); clear ob)
  |(go_at_call 35; (with_reducible refine (OC1.out _ P9.out).mono ?_); rintro e w10 ⟨rfl, p, o⟩; have P10 := Lib.hid p; have O10 := Lib.hid (O9.out.trans o (fun n f => .inl (.inl f))); have KB10 := Lib.hid (KB9.out.only o (by have := HGB.out; omega)); have SN_10 := Lib.hid (rnMv HFG.out o SN_9.out); clear p o; obtain ⟨⟨z0_10, z1_10, z2_10, z3_10, z4_10⟩, f0_10, f1_10, f2_10, f3_10, f4_10⟩ := KB10.out.five; have ob := only_cell w10 b 0 (.int .i64 7); have P11 := Lib.hid (P10.out.only ob (fun i e => .inl (by have := HGB.out; omega))); have O11 := Lib.hid (O10.out.trans ob (fun n f => .inl (.inr f))); have KB11 := Lib.hid (blkF0 KB10.out (.int .i64 7)); have SN_11 := Lib.hid (rnMv HFB.out ob SN_10.out); clear ob))
 have mixed : Try.prog.follows .mixedOrders = true := by kernel_rfl
 have PD := Lib.hid (P11.out.sm (Sm.drewn (w10.setCell ⟨b, 0, none⟩ (.int .i64 7))))
 obtain ⟨⟨z0, z1, z2, z3, z4⟩, -⟩ := KB11.out.five
 have ED2 : ((w10.setCell ⟨b, 0, none⟩ (.int .i64 7))).drew.cell? ⟨b, 2, none⟩ = some (.slice (some ⟨w6.heap.size, 0, none⟩) 1 1) := z2
 go_region_law (first | (refine step_append_str rfl (.tmp 215) (.tmp 218) rfl W.heap.size (.slice (some ⟨w6.heap.size, 0, none⟩) 1 1) [nm] ?_ ?_ w12.heap.size ?_ nm2 ?_ ?_ ?_ ?_; rfl; exact ZA.out; rfl; exact CN.out; exact (by decide : 1 ≤ 100000); exact SZ.out; intro v6 w6 own6 g6 l6; obtain ⟨A6, c6, rfl, -⟩ := strs_own (P := fun _ => True) own6 (fun _ _ => trivial); have RW6 := Lib.hid own6; have OG := Lib.hid (grown_only g6); have KB6 := Lib.hid ((KB12.out.keep (al_below w12 (.cells #[.string nm2] 9))).only OG.out (fun e => by have := (SN_12.out.lt _ e).1; have := HB.out; omega)); obtain ⟨⟨y0, y1, y2, y3, y4⟩, fy0, fy1, fy2, fy3, fy4⟩ := KB6.out.five) | (go_simp; go_at_call 49; refine (NB.out _ PD.out).mono ?_; rintro e w12 ⟨rfl, p, o⟩; have o : Only (fun b => b = g) (w10.setCell ⟨b, 0, none⟩ (.int .i64 7)) w12 := ⟨o.os, o.tape, o.output, o.size, o.block⟩; have P12 := Lib.hid p; have O12 := Lib.hid (O11.out.trans o (fun n f => .inl (.inl f))); have KB12 := Lib.hid (KB11.out.only o (by have := HGB.out; omega)); have SN_12 := Lib.hid (rnMv HFG.out o SN_11.out); clear p o; obtain ⟨⟨x0, x1, x2, x3, x4⟩, fx0, fx1, fx2, fx3, fx4⟩ := KB12.out.five; have xa2 := keep_al (.cells #[.string nm2] 9) x2; have ZA := Lib.hid (rnBel (Nat.le_refl _) (al_below w12 (.cells #[.string nm2] 9)) SN_12.out); have CN := Lib.hid (show (w12.alloc (.cells #[.string nm2] 9)).cell? ⟨w12.heap.size, 0, none⟩ = some (.string nm2) by unfold World.cell?; rw [show (w12.alloc (.cells #[.string nm2] 9)).heap[w12.heap.size]? = _ from Blk.new w12 #[.string nm2] 9]; rfl); have SZ := Lib.hid (show W.heap.size ≤ (w12.alloc (.cells #[.string nm2] 9)).heap.size from Nat.le_trans O12.out.size (Nat.le_of_lt (al_lt w12 _)))))
 all_goals
  have P6 := Lib.hid ((P12.out.alloc (.cells #[.string nm2] 9)).only OG.out (fun i e => .inl (by have := (SN_12.out.lt _ e).1; have := HG.out; omega)))
  have O6 := Lib.hid ((O12.out.alloc (.cells #[.string nm2] 9)).trans OG.out (fun i e => .inr (SN_12.out.lt _ e).1))
  have ob := Lib.hid (only_cell w6 b 2 (.slice A6 2 c6))
  have P7 := Lib.hid (P6.out.only ob.out (fun i e => .inl (by have := HGB.out; omega)))
  have O7 := Lib.hid (O6.out.trans ob.out (fun n f => .inl (.inr f)))
  have KB7 := Lib.hid (blkF2 KB6.out (.slice A6 2 c6))
  have RW7 := Lib.hid (rnMv HFB.out ob.out RW6.out)
  have SN_7 := Lib.hid (strs_own (P := Lo W) RW7.out (fun q e => (RW7.out.lt q e).1))
  generalize hwz : w6.setCell ⟨b, 2, none⟩ (.slice A6 2 c6) = w32 at *
  have P32 := P7
  have O32 := O7
  have KB32 := KB7
  have SN_32 := SN_7
  clear hwz P6 O6 P7 O7 KB7 RW7 SN_7 ob y0 y1 y2 y3 y4 fy0 fy1 fy2 fy3 fy4 x0 x1 x2 x3 x4 fx0 fx1 fx2 fx3 fx4 xa2 ZA CN SZ KB6 OG RW6 own6 g6 l6 z0 z1 z2 z3 z4 ED2 PD
  go_wp2_with (first
   |(go_at_call 51; (with_reducible refine (TI.out _ P32.out).mono ?_); rintro e w33 ⟨rfl, p, o⟩; have P33 := Lib.hid p; have O33 := Lib.hid (O32.out.trans o (fun n f => .inl (.inl f))); have KB33 := Lib.hid (KB32.out.only o (by have := HGB.out; omega)); have SN_33 := Lib.hid (stMv HFG.out o SN_32.out); clear p o)
   |(go_at_call 37; (with_reducible refine (EX1.out _ P33.out).mono ?_); rintro e w34 ⟨⟨u0, u1, u2, u3, u4, u5, u6, rfl, rd⟩, p, o, ii⟩; have P34 := Lib.hid p; have O34 := Lib.hid (O33.out.trans o (fun n f => .inl (.inl f))); have KB34 := Lib.hid (KB33.out.only o (by have := HGB.out; omega)); have SN_34 := Lib.hid (stMv HFG.out o SN_33.out); have RX_34 := Lib.hid (wideW O33.out.size rd); have IRX := Lib.hid ii; clear rd ii; clear p o; have SL_35 := Lib.hid (slOneE O34.out.size RX_34.out); have P35 := Lib.hid (P34.out.alloc (.cells #[u0, u1, u2, u3, u4, u5, u6] 39)); have O35 := Lib.hid (O34.out.alloc (.cells #[u0, u1, u2, u3, u4, u5, u6] 39)); have KB35 := Lib.hid (blk_al (.cells #[u0, u1, u2, u3, u4, u5, u6] 39) KB34.out); have SN_35 := Lib.hid (stBel (Nat.le_refl _) (al_below w34 (.cells #[u0, u1, u2, u3, u4, u5, u6] 39)) SN_34.out); obtain ⟨⟨z0_35, z1_35, z2_35, z3_35, z4_35⟩, f0_35, f1_35, f2_35, f3_35, f4_35⟩ := KB35.out.five; have ob := only_cell (w34.alloc (.cells #[u0, u1, u2, u3, u4, u5, u6] 39)) b 3 (.slice (some ⟨w34.heap.size, 0, none⟩) 1 1); have P36 := Lib.hid (P35.out.only ob (fun i e => .inl (by have := HGB.out; omega))); have O36 := Lib.hid (O35.out.trans ob (fun n f => .inl (.inr f))); have KB36 := Lib.hid (blkF3 KB35.out (.slice (some ⟨w34.heap.size, 0, none⟩) 1 1)); have SN_36 := Lib.hid (stMv HFB.out ob SN_35.out); have SL_36 := Lib.hid (slMv HFB.out ob SL_35.out); clear ob)
   |(go_at_call 51; (with_reducible refine (TD.out _ P36.out).mono ?_); rintro e w37 ⟨rfl, p, o⟩; have P37 := Lib.hid p; have O37 := Lib.hid (O36.out.trans o (fun n f => .inl (.inl f))); have KB37 := Lib.hid (KB36.out.only o (by have := HGB.out; omega)); have SN_37 := Lib.hid (stMv HFG.out o SN_36.out); have SL_37 := Lib.hid (slMv HFG.out o SL_36.out); clear p o)
   |(go_at_call 16; (with_reducible refine (BL2.out _ P37.out).mono ?_); rintro e w38 ⟨⟨v, rfl, sl⟩, p, o, ii⟩; obtain ⟨B, cB, rfl, sl⟩ := sl_shape sl; have P38 := Lib.hid p; have O38 := Lib.hid (O37.out.trans o (fun n f => .inl (.inl f))); have KB38 := Lib.hid (KB37.out.only o (by have := HGB.out; omega)); have SN_38 := Lib.hid (stMv HFG.out o SN_37.out); have SL_38 := Lib.hid (slMv HFG.out o SL_37.out); have RB_38 := Lib.hid (wideS O37.out.size sl); have IRB := Lib.hid ii; clear sl ii; clear p o; have SB_39 := Lib.hid (slOneB O38.out.size RB_38.out); have P39 := Lib.hid (P38.out.alloc (.cells #[.slice B p4.1.len cB] 23)); have O39 := Lib.hid (O38.out.alloc (.cells #[.slice B p4.1.len cB] 23)); have KB39 := Lib.hid (blk_al (.cells #[.slice B p4.1.len cB] 23) KB38.out); have SN_39 := Lib.hid (stBel (Nat.le_refl _) (al_below w38 (.cells #[.slice B p4.1.len cB] 23)) SN_38.out); have SL_39 := Lib.hid (slBel (Nat.le_refl _) (al_below w38 (.cells #[.slice B p4.1.len cB] 23)) SL_38.out); obtain ⟨⟨z0_39, z1_39, z2_39, z3_39, z4_39⟩, f0_39, f1_39, f2_39, f3_39, f4_39⟩ := KB39.out.five; have ob := only_cell (w38.alloc (.cells #[.slice B p4.1.len cB] 23)) b 4 (.slice (some ⟨w38.heap.size, 0, none⟩) 1 1); have P40 := Lib.hid (P39.out.only ob (fun i e => .inl (by have := HGB.out; omega))); have O40 := Lib.hid (O39.out.trans ob (fun n f => .inl (.inr f))); have KB40 := Lib.hid (blkF4 KB39.out (.slice (some ⟨w38.heap.size, 0, none⟩) 1 1)); have SN_40 := Lib.hid (stMv HFB.out ob SN_39.out); have SL_40 := Lib.hid (slMv HFB.out ob SL_39.out); have SB_40 := Lib.hid (slMv HFB.out ob SB_39.out); clear ob)
   |(go_at_call 51; (with_reducible refine (TN.out _ P40.out).mono ?_); rintro e w41 ⟨rfl, p, o⟩; have P41 := Lib.hid p; have O41 := Lib.hid (O40.out.trans o (fun n f => .inl (.inl f))); have KB41 := Lib.hid (KB40.out.only o (by have := HGB.out; omega)); have SN_41 := Lib.hid (stMv HFG.out o SN_40.out); have SL_41 := Lib.hid (slMv HFG.out o SL_40.out); have SB_41 := Lib.hid (slMv HFG.out o SB_40.out); clear p o))
  go_end0
  exact ⟨rfl, ⟨_, _, _, _, _, KB41.out, _, _, _, rfl, SN_41.out, SL_41.out, SB_41.out⟩, P41.out, O41.out, (by have h1 := HNI.out; have h0 := HUP.out; have h2 := HNI2.out; have h3 := HTI.out; have h4 := IRX.out; have h6 := HTD.out; have h7 := IRB.out; have h8 := HTN.out; have h9 : (up st).i = st.i + 1 := rfl; show st.i ≤ s7.i; omega), (.inr (by have h1 := HNI.out; have h0 := HUP.out; have h2 := HNI2.out; have h3 := HTI.out; have h4 := IRX.out; have h6 := HTD.out; have h7 := IRB.out; have h8 := HTN.out; have h9 : (up st).i = st.i + 1 := rfl; show st.i < s7.i; omega))⟩
end
end Go.Proofs.Yteakhlnnepjhpaa
/- The document's parser: statements: two rows of one's own side by side, one of which grows. -/
namespace Go.Proofs.Yteakhlnnepjhpaa
open Go.RowKit PrM
set_option linter.unusedVariables false
section
variable {F : Nat → Prop} {w w' w1 w7 W : World} {u u' v v' : Value} {l x : X} {ys : List Value} {cs : Array Value} {ty : TypeId} {z base b : Nat} {Q : Nat → Prop}
theorem byMv (hF : ∀ k, F k → k < W.heap.size) (o : Only F w w') (h : OwnX ty z W.heap.size (QV W u) w v l ys) : OwnX ty z W.heap.size (QV W u) w' v l ys :=
 h.only o (fun k f => ⟨hF k f, fun q => by have := hF k f; have h1 : W.heap.size ≤ k := q.1; omega⟩)
theorem byBel {B : Nat} (hB : w.heap.size ≤ B) (o : Below B w w') (h : OwnX ty z W.heap.size (QV W u) w v l ys) : OwnX ty z W.heap.size (QV W u) w' v l ys := h.only (Only.of_below (F := fun _ => False) (o.mono hB)) (fun _ f => f.elim)
theorem byGrow (hb : b < W.heap.size) (o : Only (fun k => u.ownBlock = some k ∨ u'.ownBlock = some k ∨ k = b) w w7) (nd : ∀ k, u.ownBlock = some k → v.ownBlock ≠ some k)
  (loc : u'.ownBlock = u.ownBlock ∨ ∃ n, u'.ownBlock = some n ∧ w.heap.size ≤ n) (h : OwnX ty z W.heap.size (QV W u) w v l ys) :
  OwnX ty z W.heap.size (QV W u') w7 v l ys ∧ ∀ k, u'.ownBlock = some k → v.ownBlock ≠ some k := by
 have far : ∀ k, k < w.heap.size → u.ownBlock ≠ some k → u'.ownBlock ≠ some k := fun k hl hn e => by
  rcases loc with q | ⟨n, q, hn2⟩
  ·rw [q] at e; exact hn e
  ·rw [q] at e; have := Option.some.inj e; omega
 have keep : ∀ k, W.heap.size ≤ k → k < w.heap.size → u.ownBlock ≠ some k → w7.heap[k]? = w.heap[k]? := fun k hk hl hn => o.block k hl (fun f => by
  rcases f with f | f | f
  ·exact hn f
  ·exact far k hl hn f
  ·omega)
 refine ⟨⟨⟨h.row.1, ?_⟩, ?_⟩, ?_⟩
 ·rcases h.row.2 with ⟨rfl, h0⟩ | ⟨p, cap, cur, rfl, hp, hbk, hc, h4, hs, ht⟩
  ·exact .inl ⟨rfl, h0⟩
  ·exact .inr ⟨p, cap, cur, rfl, hp, (keep p hp (Array.getElem?_eq_some_iff.1 hbk).1 (fun e => nd p e rfl)).trans hbk, hc, h4, hs, ht⟩
 ·exact (Rd.move (Q := fun k => QV W u' k ∧ v.ownBlock ≠ some k) ⟨o.size, fun p hp hl => World.cell?_of_block (keep p.block hp.1.1 hl hp.1.2), fun k hk hl => ⟨⟨hk.1.1, far k hl hk.1.2⟩, hk.2⟩⟩ l).2.2 _ _ h.rd
 ·intro k e f
  have hlt := (h.row.lt k f).2
  rcases loc with q | ⟨n, q, hn2⟩
  ·rw [q] at e; exact nd k e f
  ·rw [q] at e; have := Option.some.inj e; omega
theorem byPut (hQ : ¬ Q b) (h : OwnX ty z base Q w v l ys) (hx : (Rd w (fun k => Q k ∧ v.ownBlock ≠ some k) x).cells cs) (hz : cs.size = z)
  (own7 : w7.ownsRow base ty z v' (l.len + 1) (ys ++ cs.toList)) (o : Only (fun k => v.ownBlock = some k ∨ v'.ownBlock = some k ∨ k = b) w w7) (loc : v'.ownBlock = v.ownBlock ∨ ∃ n, v'.ownBlock = some n ∧ w.heap.size ≤ n) : OwnX ty z base Q w7 v' (l.snoc x) (ys ++ cs.toList) := by
 have far : ∀ k, k < w.heap.size → v.ownBlock ≠ some k → v'.ownBlock ≠ some k := fun k hl hn e => by
  rcases loc with q | ⟨n, q, hn2⟩
  ·rw [q] at e; exact hn e
  ·rw [q] at e; have := Option.some.inj e; omega
 refine ⟨by rw [X.len_snoc]; exact own7, ?_⟩
 refine (Rd.move ⟨o.size, fun p hp hl => World.cell?_of_block (o.block p.block hl (fun f => ?_)), fun k hk hl => ⟨hk.1, far k hl hk.2⟩⟩ _).2.2 _ _ (Rd.own_snoc l z ys x cs h.rd hx hz)
 rcases f with f | f | f
 ·exact hp.2 f
 ·exact far _ hl hp.2 f
 ·exact hQ (f ▸ hp.1)
theorem qvAll (h : OwnX ty z base Q w1 v l ys) (hs : W.heap.size ≤ w1.heap.size) : ∀ k, w1.heap.size ≤ k → QV W v k := fun k hk =>
 ⟨Nat.le_trans hs hk, fun e => by have := (h.row.lt k e).2; omega⟩
/-- A row's value: nothing, or a block of its own from the start on. -/
theorem bySlice (h : OwnX ty z base Q w v l ys) : ∃ A c, v = .slice A l.len c := by
 rcases h.row.2 with ⟨rfl, h0⟩ | ⟨p, cap, cur, rfl, -⟩
 ·exact ⟨none, 0, by rw [h0]⟩
 ·exact ⟨_, _, rfl⟩
theorem byOut (h : OwnX ty z W.heap.size (QV W u) w v l ys) : Sl l.len (Rd w (Lo W) l).row z v :=
 Rd.of_own h.row ((Rd.move (Moves.of_below (Q := Lo W) (Below.refl _ w) fun k hk _ => hk.1.1) l).2.2 _ _ h.rd) rfl fun q e => (h.row.lt q e).1
theorem nqv (hb : b < W.heap.size) : ¬ QV W u b := fun h => by have : W.heap.size ≤ b := h.1; omega
theorem ndSym (nd : ∀ k, u.ownBlock = some k → v.ownBlock ≠ some k) : ∀ k, v.ownBlock = some k → u.ownBlock ≠ some k := fun k e f => nd k f e
/-- A cell stored behind all that. -/
theorem only3 {F : Nat → Prop} (o : Only (fun k => v.ownBlock = some k) w w1) (o2 : Only F w1 w7) (hF : ∀ k, F k → v'.ownBlock = some k ∨ k = b) : Only (fun k => v.ownBlock = some k ∨ v'.ownBlock = some k ∨ k = b) w w7 :=
 ⟨o2.os.trans o.os, o2.tape.trans o.tape, o2.output.trans o.output, Nat.le_trans o.size o2.size, fun k hk hn => (o2.block k (Nat.lt_of_lt_of_le hk o.size) (fun f => hn (.inr (hF k f)))).trans (o.block k hk (fun f => hn (.inl f)))⟩
end
/-- All orders of a drawn region as one way on (12 temporaries). -/
theorem wp_cut12 {id : Nat} {ops : Array Oper} {bb : Bool} {Q : Exit → Act → World → Prop} {a : Act} {w : World} (n : Nat) (S : World → Prop) (h1 : ∀ Qp : Exit → Act → World → Prop, (∀ (w' : World) (u0 u1 u2 u3 u4 u5 u6 u7 u8 u9 u10 u11 : Value), S w' → NoPanic Qp .normal ((((((((((((a.put (some (n + 0)) u0).put (some (n + 1)) u1).put (some (n + 2)) u2).put (some (n + 3)) u3).put (some (n + 4)) u4).put (some (n + 5)) u5).put (some (n + 6)) u6).put (some (n + 7)) u7).put (some (n + 8)) u8).put (some (n + 9)) u9).put (some (n + 10)) u10).put (some (n + 11)) u11) w') → (Code.region id ops bb).wp Try.prog (NoPanic Qp) a w) (h2 : ∀ (w' : World) (u0 u1 u2 u3 u4 u5 u6 u7 u8 u9 u10 u11 : Value), S w' → Q .normal ((((((((((((a.put (some (n + 0)) u0).put (some (n + 1)) u1).put (some (n + 2)) u2).put (some (n + 3)) u3).put (some (n + 4)) u4).put (some (n + 5)) u5).put (some (n + 6)) u6).put (some (n + 7)) u7).put (some (n + 8)) u8).put (some (n + 9)) u9).put (some (n + 10)) u10).put (some (n + 11)) u11) w') : (Code.region id ops bb).wp Try.prog Q a w := wp_region_noPanic (h1 Q h2)
end Go.Proofs.Yteakhlnnepjhpaa
