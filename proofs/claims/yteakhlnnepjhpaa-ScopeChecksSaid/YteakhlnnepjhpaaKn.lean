/- Texts of one proof behind one another: PrX2, PrX4. -/
import Derived.Test.YteakhlnnepjhpaaKm
/- The document's parser: statements: while, repeat, break, do (printed by genpr11.py). -/
namespace Go.Proofs.Yteakhlnnepjhpaa
open Go.RowKit PrM
set_option linter.unusedVariables false
set_option linter.unusedSimpArgs false
section
variable {F g tg c : Nat} {T : List LxM.T}
set_option maxRecDepth 20000 in
set_option maxHeartbeats 16000000 in
theorem stat_while (hG : PrM.Good T) (hF : OkF g tg c T F) (W : World) (st : St) (a : Int) (b d : Nat) (h : PS W g tg c T st) (hb : Blk W b #[.int .i64 0, .int .i64 a, .slice none 0 0, .slice none 0 0, .slice none 0 0] 42) (hgb : g < b) (h0 : st.code = 0) (hd : d ≤ 100) (hm : 100 * (101 - d) + 6 ≤ F + 1) (q0 : is T ⟨#[108, 111, 99, 97, 108]⟩ st = false) (q1 : is T ⟨#[105, 102]⟩ st = false) (q2 : is T ⟨#[119, 104, 105, 108, 101]⟩ st = true) :
  Calls Try.prog 38 #[ptr g, ptr b, .int .i64 (d : Int)] W (SQ W g b tg c T st ((fs T (F + 1)).stat (.s 0 a [] .nil .nil) d st)) := by
 have e1 : (fs T (F + 1)).stat (.s 0 a [] .nil .nil) d st = statS T (fs T F) d a st := rfl
 rw [e1]
 unfold PrM.statS
 rw [q0, if_neg (show ¬ (false = true) from nofun), q1, if_neg (show ¬ (false = true) from nofun), q2, if_pos rfl]
 clear e1
 have EX := Lib.hid (fun W1 st1 (h1 : PS W1 g tg c T st1) => hF.exp W1 st1 d h1 hd (by omega))
 have BL := Lib.hid (fun W1 st1 (h1 : PS W1 g tg c T st1) => hF.block W1 st1 d h1 hd (by omega))
 have BO := Lib.hid (fun W1 st1 (h1 : PS W1 g tg c T st1) => hF.body W1 st1 d h1 hd (by omega))
 have BH := Lib.hid (fun W1 st1 P x v0 v1 v2 v3 v4 v5 v6 (h1 : PS W1 g tg c T st1) hr hp => hF.behind W1 st1 P x v0 v1 v2 v3 v4 v5 v6 d h1 hr hp hd (by omega))
 generalize (fs T F).exp (d : Int) = ex at *
 generalize (fs T F).block (d : Int) = bl at *
 generalize (fs T F).body (d : Int) = bo at *
 have HG := Lib.hid h.blk.lt
 have HB := Lib.hid hb.lt
 have HGB := Lib.hid hgb
 have HGG := Lib.hid hG
 have HFG : Hid (∀ k, k = g → k < W.heap.size) := Lib.hid (fun k e => e ▸ HG.out)
 have HFB : Hid (∀ k, k = b → k < W.heap.size) := Lib.hid (fun k e => e ▸ HB.out)
 have P0 := Lib.hid h
 have O0 := Lib.hid (Only.refl (fun k => k = g ∨ k = b) W)
 have KB0 := Lib.hid hb
 have i0 : (0 : Int) ≤ (d : Int) := by omega
 have i1 : (d : Int) ≤ 100 := by omega
 have OQ0 := Lib.hid (fun W1 (h1 : PS W1 g tg c T st) => opt_any h1 HGG.out ⟨#[108, 111, 99, 97, 108]⟩)
 have OQ1 := Lib.hid (fun W1 (h1 : PS W1 g tg c T st) => opt_any h1 HGG.out ⟨#[105, 102]⟩)
 have OQ2 := Lib.hid (fun W1 (h1 : PS W1 g tg c T st) => opt_any h1 HGG.out ⟨#[119, 104, 105, 108, 101]⟩)
 unfold PrM.opt at OQ0 OQ1 OQ2
 rw [q0, if_neg (show ¬ (false = true) from nofun)] at OQ0
 rw [q1, if_neg (show ¬ (false = true) from nofun)] at OQ1
 rw [q2, if_pos rfl] at OQ2
 clear h hb hgb hG hF hm hd h0 q0 q1 q2
 dsimp only
 have EX1 := Lib.hid (fun W1 (h1 : PS W1 g tg c T (up st)) => EX.out W1 _ h1)
 generalize ex (up st) = r at *
 have TD := Lib.hid (fun W1 (h1 : PS W1 g tg c T r.2) => take_any h1 HGG.out ⟨#[100, 111]⟩)
 have HT := Lib.hid (take_i2 (T := T) ⟨#[100, 111]⟩ r.2)
 generalize PrM.take T ⟨#[100, 111]⟩ r.2 = s2 at *
 have BL2 := Lib.hid (fun W1 (h1 : PS W1 g tg c T s2) => BL.out W1 _ h1)
 generalize bl s2 = q at *
 have TN := Lib.hid (fun W1 (h1 : PS W1 g tg c T q.2) => take_any h1 HGG.out ⟨#[101, 110, 100]⟩)
 have HN := Lib.hid (take_i2 (T := T) ⟨#[101, 110, 100]⟩ q.2)
 generalize PrM.take T ⟨#[101, 110, 100]⟩ q.2 = s4 at *
 go_enter Try.func38, Try.ntmps38
 go_wp2_with (first
  |(go_at_call 35; (with_reducible refine (OQ0.out _ P0.out).mono ?_); rintro e w1 ⟨rfl, p, o⟩; have P1 := Lib.hid p; have O1 := Lib.hid (O0.out.trans o (fun n f => .inl (.inl f))); have KB1 := Lib.hid (KB0.out.only o (by have := HGB.out; omega)); clear p o)
  |(go_at_call 35; (with_reducible refine (OQ1.out _ P1.out).mono ?_); rintro e w2 ⟨rfl, p, o⟩; have P2 := Lib.hid p; have O2 := Lib.hid (O1.out.trans o (fun n f => .inl (.inl f))); have KB2 := Lib.hid (KB1.out.only o (by have := HGB.out; omega)); clear p o)
  |(go_at_call 35; (with_reducible refine (OQ2.out _ P2.out).mono ?_); rintro e w3 ⟨rfl, p, o⟩; have P3 := Lib.hid p; have O3 := Lib.hid (O2.out.trans o (fun n f => .inl (.inl f))); have KB3 := Lib.hid (KB2.out.only o (by have := HGB.out; omega)); clear p o)
  |(go_at_call 37; (with_reducible refine (EX1.out _ P3.out).mono ?_); rintro e w4 ⟨⟨u0, u1, u2, u3, u4, u5, u6, rfl, rd⟩, p, o, ii⟩; have P4 := Lib.hid p; have O4 := Lib.hid (O3.out.trans o (fun n f => .inl (.inl f))); have KB4 := Lib.hid (KB3.out.only o (by have := HGB.out; omega)); have RX_4 := Lib.hid (wideW O3.out.size rd); have IRX := Lib.hid ii; clear rd ii; clear p o; have SL_5 := Lib.hid (slOneE O4.out.size RX_4.out); have P5 := Lib.hid (P4.out.alloc (.cells #[u0, u1, u2, u3, u4, u5, u6] 39)); have O5 := Lib.hid (O4.out.alloc (.cells #[u0, u1, u2, u3, u4, u5, u6] 39)); have KB5 := Lib.hid (blk_al (.cells #[u0, u1, u2, u3, u4, u5, u6] 39) KB4.out); obtain ⟨⟨z0_5, z1_5, z2_5, z3_5, z4_5⟩, f0_5, f1_5, f2_5, f3_5, f4_5⟩ := KB5.out.five; have ob := only_cell (w4.alloc (.cells #[u0, u1, u2, u3, u4, u5, u6] 39)) b 0 (.int .i64 5); have P6 := Lib.hid (P5.out.only ob (fun i e => .inl (by have := HGB.out; omega))); have O6 := Lib.hid (O5.out.trans ob (fun n f => .inl (.inr f))); have KB6 := Lib.hid (blkF0 KB5.out (.int .i64 5)); have SL_6 := Lib.hid (slMv HFB.out ob SL_5.out); clear ob; have ob := only_cell ((w4.alloc (.cells #[u0, u1, u2, u3, u4, u5, u6] 39)).setCell ⟨b, 0, none⟩ (.int .i64 5)) b 3 (.slice (some ⟨w4.heap.size, 0, none⟩) 1 1); have P7 := Lib.hid (P6.out.only ob (fun i e => .inl (by have := HGB.out; omega))); have O7 := Lib.hid (O6.out.trans ob (fun n f => .inl (.inr f))); have KB7 := Lib.hid (blkF3 KB6.out (.slice (some ⟨w4.heap.size, 0, none⟩) 1 1)); have SL_7 := Lib.hid (slMv HFB.out ob SL_6.out); clear ob)
  |(go_at_call 51; (with_reducible refine (TD.out _ P7.out).mono ?_); rintro e w8 ⟨rfl, p, o⟩; have P8 := Lib.hid p; have O8 := Lib.hid (O7.out.trans o (fun n f => .inl (.inl f))); have KB8 := Lib.hid (KB7.out.only o (by have := HGB.out; omega)); have SL_8 := Lib.hid (slMv HFG.out o SL_7.out); clear p o)
  |(go_at_call 16; (with_reducible refine (BL2.out _ P8.out).mono ?_); rintro e w9 ⟨⟨v, rfl, sl⟩, p, o, ii⟩; obtain ⟨B, cB, rfl, sl⟩ := sl_shape sl; have P9 := Lib.hid p; have O9 := Lib.hid (O8.out.trans o (fun n f => .inl (.inl f))); have KB9 := Lib.hid (KB8.out.only o (by have := HGB.out; omega)); have SL_9 := Lib.hid (slMv HFG.out o SL_8.out); have RB_9 := Lib.hid (wideS O8.out.size sl); have IRB := Lib.hid ii; clear sl ii; clear p o; have SB_10 := Lib.hid (slOneB O9.out.size RB_9.out); have P10 := Lib.hid (P9.out.alloc (.cells #[.slice B q.1.len cB] 23)); have O10 := Lib.hid (O9.out.alloc (.cells #[.slice B q.1.len cB] 23)); have KB10 := Lib.hid (blk_al (.cells #[.slice B q.1.len cB] 23) KB9.out); have SL_10 := Lib.hid (slBel (Nat.le_refl _) (al_below w9 (.cells #[.slice B q.1.len cB] 23)) SL_9.out); obtain ⟨⟨z0_10, z1_10, z2_10, z3_10, z4_10⟩, f0_10, f1_10, f2_10, f3_10, f4_10⟩ := KB10.out.five; have ob := only_cell (w9.alloc (.cells #[.slice B q.1.len cB] 23)) b 4 (.slice (some ⟨w9.heap.size, 0, none⟩) 1 1); have P11 := Lib.hid (P10.out.only ob (fun i e => .inl (by have := HGB.out; omega))); have O11 := Lib.hid (O10.out.trans ob (fun n f => .inl (.inr f))); have KB11 := Lib.hid (blkF4 KB10.out (.slice (some ⟨w9.heap.size, 0, none⟩) 1 1)); have SL_11 := Lib.hid (slMv HFB.out ob SL_10.out); have SB_11 := Lib.hid (slMv HFB.out ob SB_10.out); clear ob)
  |(go_at_call 51; (with_reducible refine (TN.out _ P11.out).mono ?_); rintro e w12 ⟨rfl, p, o⟩; have P12 := Lib.hid p; have O12 := Lib.hid (O11.out.trans o (fun n f => .inl (.inl f))); have KB12 := Lib.hid (KB11.out.only o (by have := HGB.out; omega)); have SL_12 := Lib.hid (slMv HFG.out o SL_11.out); have SB_12 := Lib.hid (slMv HFG.out o SB_11.out); clear p o))
 go_end0
 exact ⟨rfl, ⟨_, _, _, _, _, KB12.out, _, _, _, rfl, strsN _ _, SL_12.out, SB_12.out⟩, P12.out, O12.out, (by have h1 := HT.out; have h2 := IRX.out; have h3 := IRB.out; have h4 := HN.out; have h5 : (up st).i = st.i + 1 := rfl; show st.i ≤ s4.i; omega), (.inr (by have h1 := HT.out; have h2 := IRX.out; have h3 := IRB.out; have h4 := HN.out; have h5 : (up st).i = st.i + 1 := rfl; show st.i < s4.i; omega))⟩
set_option maxRecDepth 20000 in
set_option maxHeartbeats 16000000 in
theorem stat_repeat (hG : PrM.Good T) (hF : OkF g tg c T F) (W : World) (st : St) (a : Int) (b d : Nat) (h : PS W g tg c T st) (hb : Blk W b #[.int .i64 0, .int .i64 a, .slice none 0 0, .slice none 0 0, .slice none 0 0] 42) (hgb : g < b) (h0 : st.code = 0) (hd : d ≤ 100) (hm : 100 * (101 - d) + 6 ≤ F + 1) (q0 : is T ⟨#[108, 111, 99, 97, 108]⟩ st = false) (q1 : is T ⟨#[105, 102]⟩ st = false) (q2 : is T ⟨#[119, 104, 105, 108, 101]⟩ st = false) (q3 : is T ⟨#[114, 101, 112, 101, 97, 116]⟩ st = true) :
  Calls Try.prog 38 #[ptr g, ptr b, .int .i64 (d : Int)] W (SQ W g b tg c T st ((fs T (F + 1)).stat (.s 0 a [] .nil .nil) d st)) := by
 have e1 : (fs T (F + 1)).stat (.s 0 a [] .nil .nil) d st = statS T (fs T F) d a st := rfl
 rw [e1]
 unfold PrM.statS
 rw [q0, if_neg (show ¬ (false = true) from nofun), q1, if_neg (show ¬ (false = true) from nofun), q2, if_neg (show ¬ (false = true) from nofun), q3, if_pos rfl]
 clear e1
 have EX := Lib.hid (fun W1 st1 (h1 : PS W1 g tg c T st1) => hF.exp W1 st1 d h1 hd (by omega))
 have BL := Lib.hid (fun W1 st1 (h1 : PS W1 g tg c T st1) => hF.block W1 st1 d h1 hd (by omega))
 have BO := Lib.hid (fun W1 st1 (h1 : PS W1 g tg c T st1) => hF.body W1 st1 d h1 hd (by omega))
 have BH := Lib.hid (fun W1 st1 P x v0 v1 v2 v3 v4 v5 v6 (h1 : PS W1 g tg c T st1) hr hp => hF.behind W1 st1 P x v0 v1 v2 v3 v4 v5 v6 d h1 hr hp hd (by omega))
 generalize (fs T F).exp (d : Int) = ex at *
 generalize (fs T F).block (d : Int) = bl at *
 generalize (fs T F).body (d : Int) = bo at *
 have HG := Lib.hid h.blk.lt
 have HB := Lib.hid hb.lt
 have HGB := Lib.hid hgb
 have HGG := Lib.hid hG
 have HFG : Hid (∀ k, k = g → k < W.heap.size) := Lib.hid (fun k e => e ▸ HG.out)
 have HFB : Hid (∀ k, k = b → k < W.heap.size) := Lib.hid (fun k e => e ▸ HB.out)
 have P0 := Lib.hid h
 have O0 := Lib.hid (Only.refl (fun k => k = g ∨ k = b) W)
 have KB0 := Lib.hid hb
 have i0 : (0 : Int) ≤ (d : Int) := by omega
 have i1 : (d : Int) ≤ 100 := by omega
 have OQ0 := Lib.hid (fun W1 (h1 : PS W1 g tg c T st) => opt_any h1 HGG.out ⟨#[108, 111, 99, 97, 108]⟩)
 have OQ1 := Lib.hid (fun W1 (h1 : PS W1 g tg c T st) => opt_any h1 HGG.out ⟨#[105, 102]⟩)
 have OQ2 := Lib.hid (fun W1 (h1 : PS W1 g tg c T st) => opt_any h1 HGG.out ⟨#[119, 104, 105, 108, 101]⟩)
 have OQ3 := Lib.hid (fun W1 (h1 : PS W1 g tg c T st) => opt_any h1 HGG.out ⟨#[114, 101, 112, 101, 97, 116]⟩)
 unfold PrM.opt at OQ0 OQ1 OQ2 OQ3
 rw [q0, if_neg (show ¬ (false = true) from nofun)] at OQ0
 rw [q1, if_neg (show ¬ (false = true) from nofun)] at OQ1
 rw [q2, if_neg (show ¬ (false = true) from nofun)] at OQ2
 rw [q3, if_pos rfl] at OQ3
 clear h hb hgb hG hF hm hd h0 q0 q1 q2 q3
 dsimp only
 have BL2 := Lib.hid (fun W1 (h1 : PS W1 g tg c T (up st)) => BL.out W1 _ h1)
 generalize bl (up st) = q at *
 have TU := Lib.hid (fun W1 (h1 : PS W1 g tg c T q.2) => take_any h1 HGG.out ⟨#[117, 110, 116, 105, 108]⟩)
 have HT := Lib.hid (take_i2 (T := T) ⟨#[117, 110, 116, 105, 108]⟩ q.2)
 generalize PrM.take T ⟨#[117, 110, 116, 105, 108]⟩ q.2 = s2 at *
 have EX1 := Lib.hid (fun W1 (h1 : PS W1 g tg c T s2) => EX.out W1 _ h1)
 generalize ex s2 = r at *
 go_enter Try.func38, Try.ntmps38
 go_wp2_with (first
  |(go_at_call 35; (with_reducible refine (OQ0.out _ P0.out).mono ?_); rintro e w1 ⟨rfl, p, o⟩; have P1 := Lib.hid p; have O1 := Lib.hid (O0.out.trans o (fun n f => .inl (.inl f))); have KB1 := Lib.hid (KB0.out.only o (by have := HGB.out; omega)); clear p o)
  |(go_at_call 35; (with_reducible refine (OQ1.out _ P1.out).mono ?_); rintro e w2 ⟨rfl, p, o⟩; have P2 := Lib.hid p; have O2 := Lib.hid (O1.out.trans o (fun n f => .inl (.inl f))); have KB2 := Lib.hid (KB1.out.only o (by have := HGB.out; omega)); clear p o)
  |(go_at_call 35; (with_reducible refine (OQ2.out _ P2.out).mono ?_); rintro e w3 ⟨rfl, p, o⟩; have P3 := Lib.hid p; have O3 := Lib.hid (O2.out.trans o (fun n f => .inl (.inl f))); have KB3 := Lib.hid (KB2.out.only o (by have := HGB.out; omega)); clear p o)
  |(go_at_call 35; (with_reducible refine (OQ3.out _ P3.out).mono ?_); rintro e w4 ⟨rfl, p, o⟩; have P4 := Lib.hid p; have O4 := Lib.hid (O3.out.trans o (fun n f => .inl (.inl f))); have KB4 := Lib.hid (KB3.out.only o (by have := HGB.out; omega)); clear p o)
  |(go_at_call 16; (with_reducible refine (BL2.out _ P4.out).mono ?_); rintro e w5 ⟨⟨v, rfl, sl⟩, p, o, ii⟩; obtain ⟨B, cB, rfl, sl⟩ := sl_shape sl; have P5 := Lib.hid p; have O5 := Lib.hid (O4.out.trans o (fun n f => .inl (.inl f))); have KB5 := Lib.hid (KB4.out.only o (by have := HGB.out; omega)); have RB_5 := Lib.hid (wideS O4.out.size sl); have IRB := Lib.hid ii; clear sl ii; clear p o; have SB_6 := Lib.hid (slOneB O5.out.size RB_5.out); have P6 := Lib.hid (P5.out.alloc (.cells #[.slice B q.1.len cB] 23)); have O6 := Lib.hid (O5.out.alloc (.cells #[.slice B q.1.len cB] 23)); have KB6 := Lib.hid (blk_al (.cells #[.slice B q.1.len cB] 23) KB5.out); obtain ⟨⟨z0_6, z1_6, z2_6, z3_6, z4_6⟩, f0_6, f1_6, f2_6, f3_6, f4_6⟩ := KB6.out.five; have ob := only_cell (w5.alloc (.cells #[.slice B q.1.len cB] 23)) b 4 (.slice (some ⟨w5.heap.size, 0, none⟩) 1 1); have P7 := Lib.hid (P6.out.only ob (fun i e => .inl (by have := HGB.out; omega))); have O7 := Lib.hid (O6.out.trans ob (fun n f => .inl (.inr f))); have KB7 := Lib.hid (blkF4 KB6.out (.slice (some ⟨w5.heap.size, 0, none⟩) 1 1)); have SB_7 := Lib.hid (slMv HFB.out ob SB_6.out); clear ob)
  |(go_at_call 51; (with_reducible refine (TU.out _ P7.out).mono ?_); rintro e w8 ⟨rfl, p, o⟩; have P8 := Lib.hid p; have O8 := Lib.hid (O7.out.trans o (fun n f => .inl (.inl f))); have KB8 := Lib.hid (KB7.out.only o (by have := HGB.out; omega)); have SB_8 := Lib.hid (slMv HFG.out o SB_7.out); clear p o)
  |(go_at_call 37; (with_reducible refine (EX1.out _ P8.out).mono ?_); rintro e w9 ⟨⟨u0, u1, u2, u3, u4, u5, u6, rfl, rd⟩, p, o, ii⟩; have P9 := Lib.hid p; have O9 := Lib.hid (O8.out.trans o (fun n f => .inl (.inl f))); have KB9 := Lib.hid (KB8.out.only o (by have := HGB.out; omega)); have SB_9 := Lib.hid (slMv HFG.out o SB_8.out); have RX_9 := Lib.hid (wideW O8.out.size rd); have IRX := Lib.hid ii; clear rd ii; clear p o; have SL_10 := Lib.hid (slOneE O9.out.size RX_9.out); have P10 := Lib.hid (P9.out.alloc (.cells #[u0, u1, u2, u3, u4, u5, u6] 39)); have O10 := Lib.hid (O9.out.alloc (.cells #[u0, u1, u2, u3, u4, u5, u6] 39)); have KB10 := Lib.hid (blk_al (.cells #[u0, u1, u2, u3, u4, u5, u6] 39) KB9.out); have SB_10 := Lib.hid (slBel (Nat.le_refl _) (al_below w9 (.cells #[u0, u1, u2, u3, u4, u5, u6] 39)) SB_9.out); obtain ⟨⟨z0_10, z1_10, z2_10, z3_10, z4_10⟩, f0_10, f1_10, f2_10, f3_10, f4_10⟩ := KB10.out.five; have ob := only_cell (w9.alloc (.cells #[u0, u1, u2, u3, u4, u5, u6] 39)) b 0 (.int .i64 8); have P11 := Lib.hid (P10.out.only ob (fun i e => .inl (by have := HGB.out; omega))); have O11 := Lib.hid (O10.out.trans ob (fun n f => .inl (.inr f))); have KB11 := Lib.hid (blkF0 KB10.out (.int .i64 8)); have SB_11 := Lib.hid (slMv HFB.out ob SB_10.out); have SL_11 := Lib.hid (slMv HFB.out ob SL_10.out); clear ob; have ob := only_cell ((w9.alloc (.cells #[u0, u1, u2, u3, u4, u5, u6] 39)).setCell ⟨b, 0, none⟩ (.int .i64 8)) b 3 (.slice (some ⟨w9.heap.size, 0, none⟩) 1 1); have P12 := Lib.hid (P11.out.only ob (fun i e => .inl (by have := HGB.out; omega))); have O12 := Lib.hid (O11.out.trans ob (fun n f => .inl (.inr f))); have KB12 := Lib.hid (blkF3 KB11.out (.slice (some ⟨w9.heap.size, 0, none⟩) 1 1)); have SB_12 := Lib.hid (slMv HFB.out ob SB_11.out); have SL_12 := Lib.hid (slMv HFB.out ob SL_11.out); clear ob))
 go_end0
 exact ⟨rfl, ⟨_, _, _, _, _, KB12.out, _, _, _, rfl, strsN _ _, SL_12.out, SB_12.out⟩, P12.out, O12.out, (by have h1 := HT.out; have h2 := IRX.out; have h3 := IRB.out; have h5 : (up st).i = st.i + 1 := rfl; show st.i ≤ r.2.i; omega), (.inr (by have h1 := HT.out; have h2 := IRX.out; have h3 := IRB.out; have h5 : (up st).i = st.i + 1 := rfl; show st.i < r.2.i; omega))⟩
set_option maxRecDepth 20000 in
set_option maxHeartbeats 16000000 in
theorem stat_break (hG : PrM.Good T) (hF : OkF g tg c T F) (W : World) (st : St) (a : Int) (b d : Nat) (h : PS W g tg c T st) (hb : Blk W b #[.int .i64 0, .int .i64 a, .slice none 0 0, .slice none 0 0, .slice none 0 0] 42) (hgb : g < b) (h0 : st.code = 0) (hd : d ≤ 100) (hm : 100 * (101 - d) + 6 ≤ F + 1) (q0 : is T ⟨#[108, 111, 99, 97, 108]⟩ st = false) (q1 : is T ⟨#[105, 102]⟩ st = false) (q2 : is T ⟨#[119, 104, 105, 108, 101]⟩ st = false) (q3 : is T ⟨#[114, 101, 112, 101, 97, 116]⟩ st = false) (q4 : is T ⟨#[102, 111, 114]⟩ st = false) (q5 : is T ⟨#[98, 114, 101, 97, 107]⟩ st = true) :
  Calls Try.prog 38 #[ptr g, ptr b, .int .i64 (d : Int)] W (SQ W g b tg c T st ((fs T (F + 1)).stat (.s 0 a [] .nil .nil) d st)) := by
 have e1 : (fs T (F + 1)).stat (.s 0 a [] .nil .nil) d st = statS T (fs T F) d a st := rfl
 rw [e1]
 unfold PrM.statS
 rw [q0, if_neg (show ¬ (false = true) from nofun), q1, if_neg (show ¬ (false = true) from nofun), q2, if_neg (show ¬ (false = true) from nofun), q3, if_neg (show ¬ (false = true) from nofun), q4, if_neg (show ¬ (false = true) from nofun), q5, if_pos rfl]
 clear e1
 have EX := Lib.hid (fun W1 st1 (h1 : PS W1 g tg c T st1) => hF.exp W1 st1 d h1 hd (by omega))
 have BL := Lib.hid (fun W1 st1 (h1 : PS W1 g tg c T st1) => hF.block W1 st1 d h1 hd (by omega))
 have BO := Lib.hid (fun W1 st1 (h1 : PS W1 g tg c T st1) => hF.body W1 st1 d h1 hd (by omega))
 have BH := Lib.hid (fun W1 st1 P x v0 v1 v2 v3 v4 v5 v6 (h1 : PS W1 g tg c T st1) hr hp => hF.behind W1 st1 P x v0 v1 v2 v3 v4 v5 v6 d h1 hr hp hd (by omega))
 generalize (fs T F).exp (d : Int) = ex at *
 generalize (fs T F).block (d : Int) = bl at *
 generalize (fs T F).body (d : Int) = bo at *
 have HG := Lib.hid h.blk.lt
 have HB := Lib.hid hb.lt
 have HGB := Lib.hid hgb
 have HGG := Lib.hid hG
 have HFG : Hid (∀ k, k = g → k < W.heap.size) := Lib.hid (fun k e => e ▸ HG.out)
 have HFB : Hid (∀ k, k = b → k < W.heap.size) := Lib.hid (fun k e => e ▸ HB.out)
 have P0 := Lib.hid h
 have O0 := Lib.hid (Only.refl (fun k => k = g ∨ k = b) W)
 have KB0 := Lib.hid hb
 have i0 : (0 : Int) ≤ (d : Int) := by omega
 have i1 : (d : Int) ≤ 100 := by omega
 have OQ0 := Lib.hid (fun W1 (h1 : PS W1 g tg c T st) => opt_any h1 HGG.out ⟨#[108, 111, 99, 97, 108]⟩)
 have OQ1 := Lib.hid (fun W1 (h1 : PS W1 g tg c T st) => opt_any h1 HGG.out ⟨#[105, 102]⟩)
 have OQ2 := Lib.hid (fun W1 (h1 : PS W1 g tg c T st) => opt_any h1 HGG.out ⟨#[119, 104, 105, 108, 101]⟩)
 have OQ3 := Lib.hid (fun W1 (h1 : PS W1 g tg c T st) => opt_any h1 HGG.out ⟨#[114, 101, 112, 101, 97, 116]⟩)
 have OQ4 := Lib.hid (fun W1 (h1 : PS W1 g tg c T st) => opt_any h1 HGG.out ⟨#[102, 111, 114]⟩)
 have OQ5 := Lib.hid (fun W1 (h1 : PS W1 g tg c T st) => opt_any h1 HGG.out ⟨#[98, 114, 101, 97, 107]⟩)
 unfold PrM.opt at OQ0 OQ1 OQ2 OQ3 OQ4 OQ5
 rw [q0, if_neg (show ¬ (false = true) from nofun)] at OQ0
 rw [q1, if_neg (show ¬ (false = true) from nofun)] at OQ1
 rw [q2, if_neg (show ¬ (false = true) from nofun)] at OQ2
 rw [q3, if_neg (show ¬ (false = true) from nofun)] at OQ3
 rw [q4, if_neg (show ¬ (false = true) from nofun)] at OQ4
 rw [q5, if_pos rfl] at OQ5
 clear h hb hgb hG hF hm hd h0 q0 q1 q2 q3 q4 q5
 go_enter Try.func38, Try.ntmps38
 go_wp2_with (first
  |(go_at_call 35; (with_reducible refine (OQ0.out _ P0.out).mono ?_); rintro e w1 ⟨rfl, p, o⟩; have P1 := Lib.hid p; have O1 := Lib.hid (O0.out.trans o (fun n f => .inl (.inl f))); have KB1 := Lib.hid (KB0.out.only o (by have := HGB.out; omega)); clear p o)
  |(go_at_call 35; (with_reducible refine (OQ1.out _ P1.out).mono ?_); rintro e w2 ⟨rfl, p, o⟩; have P2 := Lib.hid p; have O2 := Lib.hid (O1.out.trans o (fun n f => .inl (.inl f))); have KB2 := Lib.hid (KB1.out.only o (by have := HGB.out; omega)); clear p o)
  |(go_at_call 35; (with_reducible refine (OQ2.out _ P2.out).mono ?_); rintro e w3 ⟨rfl, p, o⟩; have P3 := Lib.hid p; have O3 := Lib.hid (O2.out.trans o (fun n f => .inl (.inl f))); have KB3 := Lib.hid (KB2.out.only o (by have := HGB.out; omega)); clear p o)
  |(go_at_call 35; (with_reducible refine (OQ3.out _ P3.out).mono ?_); rintro e w4 ⟨rfl, p, o⟩; have P4 := Lib.hid p; have O4 := Lib.hid (O3.out.trans o (fun n f => .inl (.inl f))); have KB4 := Lib.hid (KB3.out.only o (by have := HGB.out; omega)); clear p o)
  |(go_at_call 35; (with_reducible refine (OQ4.out _ P4.out).mono ?_); rintro e w5 ⟨rfl, p, o⟩; have P5 := Lib.hid p; have O5 := Lib.hid (O4.out.trans o (fun n f => .inl (.inl f))); have KB5 := Lib.hid (KB4.out.only o (by have := HGB.out; omega)); clear p o)
  |(go_at_call 35; (with_reducible refine (OQ5.out _ P5.out).mono ?_); rintro e w6 ⟨rfl, p, o⟩; have P6 := Lib.hid p; have O6 := Lib.hid (O5.out.trans o (fun n f => .inl (.inl f))); have KB6 := Lib.hid (KB5.out.only o (by have := HGB.out; omega)); clear p o; obtain ⟨⟨z0_6, z1_6, z2_6, z3_6, z4_6⟩, f0_6, f1_6, f2_6, f3_6, f4_6⟩ := KB6.out.five; have ob := only_cell w6 b 0 (.int .i64 9); have P7 := Lib.hid (P6.out.only ob (fun i e => .inl (by have := HGB.out; omega))); have O7 := Lib.hid (O6.out.trans ob (fun n f => .inl (.inr f))); have KB7 := Lib.hid (blkF0 KB6.out (.int .i64 9)); clear ob))
 go_end0
 exact ⟨rfl, ⟨_, _, _, _, _, KB7.out, _, _, _, rfl, strsN _ _, sl_nil _ _ _, sl_nil _ _ _⟩, P7.out, O7.out, (by have h5 : (up st).i = st.i + 1 := rfl; show st.i ≤ (up st).i; omega), (.inr (by have h5 : (up st).i = st.i + 1 := rfl; show st.i < (up st).i; omega))⟩
set_option maxRecDepth 20000 in
set_option maxHeartbeats 16000000 in
theorem stat_do (hG : PrM.Good T) (hF : OkF g tg c T F) (W : World) (st : St) (a : Int) (b d : Nat) (h : PS W g tg c T st) (hb : Blk W b #[.int .i64 0, .int .i64 a, .slice none 0 0, .slice none 0 0, .slice none 0 0] 42) (hgb : g < b) (h0 : st.code = 0) (hd : d ≤ 100) (hm : 100 * (101 - d) + 6 ≤ F + 1) (q0 : is T ⟨#[108, 111, 99, 97, 108]⟩ st = false) (q1 : is T ⟨#[105, 102]⟩ st = false) (q2 : is T ⟨#[119, 104, 105, 108, 101]⟩ st = false) (q3 : is T ⟨#[114, 101, 112, 101, 97, 116]⟩ st = false) (q4 : is T ⟨#[102, 111, 114]⟩ st = false) (q5 : is T ⟨#[98, 114, 101, 97, 107]⟩ st = false) (q6 : is T ⟨#[100, 111]⟩ st = true) :
  Calls Try.prog 38 #[ptr g, ptr b, .int .i64 (d : Int)] W (SQ W g b tg c T st ((fs T (F + 1)).stat (.s 0 a [] .nil .nil) d st)) := by
 have e1 : (fs T (F + 1)).stat (.s 0 a [] .nil .nil) d st = statS T (fs T F) d a st := rfl
 rw [e1]
 unfold PrM.statS
 rw [q0, if_neg (show ¬ (false = true) from nofun), q1, if_neg (show ¬ (false = true) from nofun), q2, if_neg (show ¬ (false = true) from nofun), q3, if_neg (show ¬ (false = true) from nofun), q4, if_neg (show ¬ (false = true) from nofun), q5, if_neg (show ¬ (false = true) from nofun), q6, if_pos rfl]
 clear e1
 have EX := Lib.hid (fun W1 st1 (h1 : PS W1 g tg c T st1) => hF.exp W1 st1 d h1 hd (by omega))
 have BL := Lib.hid (fun W1 st1 (h1 : PS W1 g tg c T st1) => hF.block W1 st1 d h1 hd (by omega))
 have BO := Lib.hid (fun W1 st1 (h1 : PS W1 g tg c T st1) => hF.body W1 st1 d h1 hd (by omega))
 have BH := Lib.hid (fun W1 st1 P x v0 v1 v2 v3 v4 v5 v6 (h1 : PS W1 g tg c T st1) hr hp => hF.behind W1 st1 P x v0 v1 v2 v3 v4 v5 v6 d h1 hr hp hd (by omega))
 generalize (fs T F).exp (d : Int) = ex at *
 generalize (fs T F).block (d : Int) = bl at *
 generalize (fs T F).body (d : Int) = bo at *
 have HG := Lib.hid h.blk.lt
 have HB := Lib.hid hb.lt
 have HGB := Lib.hid hgb
 have HGG := Lib.hid hG
 have HFG : Hid (∀ k, k = g → k < W.heap.size) := Lib.hid (fun k e => e ▸ HG.out)
 have HFB : Hid (∀ k, k = b → k < W.heap.size) := Lib.hid (fun k e => e ▸ HB.out)
 have P0 := Lib.hid h
 have O0 := Lib.hid (Only.refl (fun k => k = g ∨ k = b) W)
 have KB0 := Lib.hid hb
 have i0 : (0 : Int) ≤ (d : Int) := by omega
 have i1 : (d : Int) ≤ 100 := by omega
 have OQ0 := Lib.hid (fun W1 (h1 : PS W1 g tg c T st) => opt_any h1 HGG.out ⟨#[108, 111, 99, 97, 108]⟩)
 have OQ1 := Lib.hid (fun W1 (h1 : PS W1 g tg c T st) => opt_any h1 HGG.out ⟨#[105, 102]⟩)
 have OQ2 := Lib.hid (fun W1 (h1 : PS W1 g tg c T st) => opt_any h1 HGG.out ⟨#[119, 104, 105, 108, 101]⟩)
 have OQ3 := Lib.hid (fun W1 (h1 : PS W1 g tg c T st) => opt_any h1 HGG.out ⟨#[114, 101, 112, 101, 97, 116]⟩)
 have OQ4 := Lib.hid (fun W1 (h1 : PS W1 g tg c T st) => opt_any h1 HGG.out ⟨#[102, 111, 114]⟩)
 have OQ5 := Lib.hid (fun W1 (h1 : PS W1 g tg c T st) => opt_any h1 HGG.out ⟨#[98, 114, 101, 97, 107]⟩)
 have OQ6 := Lib.hid (fun W1 (h1 : PS W1 g tg c T st) => opt_any h1 HGG.out ⟨#[100, 111]⟩)
 unfold PrM.opt at OQ0 OQ1 OQ2 OQ3 OQ4 OQ5 OQ6
 rw [q0, if_neg (show ¬ (false = true) from nofun)] at OQ0
 rw [q1, if_neg (show ¬ (false = true) from nofun)] at OQ1
 rw [q2, if_neg (show ¬ (false = true) from nofun)] at OQ2
 rw [q3, if_neg (show ¬ (false = true) from nofun)] at OQ3
 rw [q4, if_neg (show ¬ (false = true) from nofun)] at OQ4
 rw [q5, if_neg (show ¬ (false = true) from nofun)] at OQ5
 rw [q6, if_pos rfl] at OQ6
 clear h hb hgb hG hF hm hd h0 q0 q1 q2 q3 q4 q5 q6
 dsimp only
 have BL2 := Lib.hid (fun W1 (h1 : PS W1 g tg c T (up st)) => BL.out W1 _ h1)
 generalize bl (up st) = q at *
 have TN := Lib.hid (fun W1 (h1 : PS W1 g tg c T q.2) => take_any h1 HGG.out ⟨#[101, 110, 100]⟩)
 have HN := Lib.hid (take_i2 (T := T) ⟨#[101, 110, 100]⟩ q.2)
 generalize PrM.take T ⟨#[101, 110, 100]⟩ q.2 = s4 at *
 go_enter Try.func38, Try.ntmps38
 go_wp2_with (first
  |(go_at_call 35; (with_reducible refine (OQ0.out _ P0.out).mono ?_); rintro e w1 ⟨rfl, p, o⟩; have P1 := Lib.hid p; have O1 := Lib.hid (O0.out.trans o (fun n f => .inl (.inl f))); have KB1 := Lib.hid (KB0.out.only o (by have := HGB.out; omega)); clear p o)
  |(go_at_call 35; (with_reducible refine (OQ1.out _ P1.out).mono ?_); rintro e w2 ⟨rfl, p, o⟩; have P2 := Lib.hid p; have O2 := Lib.hid (O1.out.trans o (fun n f => .inl (.inl f))); have KB2 := Lib.hid (KB1.out.only o (by have := HGB.out; omega)); clear p o)
  |(go_at_call 35; (with_reducible refine (OQ2.out _ P2.out).mono ?_); rintro e w3 ⟨rfl, p, o⟩; have P3 := Lib.hid p; have O3 := Lib.hid (O2.out.trans o (fun n f => .inl (.inl f))); have KB3 := Lib.hid (KB2.out.only o (by have := HGB.out; omega)); clear p o)
  |(go_at_call 35; (with_reducible refine (OQ3.out _ P3.out).mono ?_); rintro e w4 ⟨rfl, p, o⟩; have P4 := Lib.hid p; have O4 := Lib.hid (O3.out.trans o (fun n f => .inl (.inl f))); have KB4 := Lib.hid (KB3.out.only o (by have := HGB.out; omega)); clear p o)
  |(go_at_call 35; (with_reducible refine (OQ4.out _ P4.out).mono ?_); rintro e w5 ⟨rfl, p, o⟩; have P5 := Lib.hid p; have O5 := Lib.hid (O4.out.trans o (fun n f => .inl (.inl f))); have KB5 := Lib.hid (KB4.out.only o (by have := HGB.out; omega)); clear p o)
  |(go_at_call 35; (with_reducible refine (OQ5.out _ P5.out).mono ?_); rintro e w6 ⟨rfl, p, o⟩; have P6 := Lib.hid p; have O6 := Lib.hid (O5.out.trans o (fun n f => .inl (.inl f))); have KB6 := Lib.hid (KB5.out.only o (by have := HGB.out; omega)); clear p o)
  |(go_at_call 35; (with_reducible refine (OQ6.out _ P6.out).mono ?_); rintro e w7 ⟨rfl, p, o⟩; have P7 := Lib.hid p; have O7 := Lib.hid (O6.out.trans o (fun n f => .inl (.inl f))); have KB7 := Lib.hid (KB6.out.only o (by have := HGB.out; omega)); clear p o; obtain ⟨⟨z0_7, z1_7, z2_7, z3_7, z4_7⟩, f0_7, f1_7, f2_7, f3_7, f4_7⟩ := KB7.out.five; have ob := only_cell w7 b 0 (.int .i64 11); have P8 := Lib.hid (P7.out.only ob (fun i e => .inl (by have := HGB.out; omega))); have O8 := Lib.hid (O7.out.trans ob (fun n f => .inl (.inr f))); have KB8 := Lib.hid (blkF0 KB7.out (.int .i64 11)); clear ob)
  |(go_at_call 16; (with_reducible refine (BL2.out _ P8.out).mono ?_); rintro e w9 ⟨⟨v, rfl, sl⟩, p, o, ii⟩; obtain ⟨B, cB, rfl, sl⟩ := sl_shape sl; have P9 := Lib.hid p; have O9 := Lib.hid (O8.out.trans o (fun n f => .inl (.inl f))); have KB9 := Lib.hid (KB8.out.only o (by have := HGB.out; omega)); have RB_9 := Lib.hid (wideS O8.out.size sl); have IRB := Lib.hid ii; clear sl ii; clear p o; have SB_10 := Lib.hid (slOneB O9.out.size RB_9.out); have P10 := Lib.hid (P9.out.alloc (.cells #[.slice B q.1.len cB] 23)); have O10 := Lib.hid (O9.out.alloc (.cells #[.slice B q.1.len cB] 23)); have KB10 := Lib.hid (blk_al (.cells #[.slice B q.1.len cB] 23) KB9.out); obtain ⟨⟨z0_10, z1_10, z2_10, z3_10, z4_10⟩, f0_10, f1_10, f2_10, f3_10, f4_10⟩ := KB10.out.five; have ob := only_cell (w9.alloc (.cells #[.slice B q.1.len cB] 23)) b 4 (.slice (some ⟨w9.heap.size, 0, none⟩) 1 1); have P11 := Lib.hid (P10.out.only ob (fun i e => .inl (by have := HGB.out; omega))); have O11 := Lib.hid (O10.out.trans ob (fun n f => .inl (.inr f))); have KB11 := Lib.hid (blkF4 KB10.out (.slice (some ⟨w9.heap.size, 0, none⟩) 1 1)); have SB_11 := Lib.hid (slMv HFB.out ob SB_10.out); clear ob)
  |(go_at_call 51; (with_reducible refine (TN.out _ P11.out).mono ?_); rintro e w12 ⟨rfl, p, o⟩; have P12 := Lib.hid p; have O12 := Lib.hid (O11.out.trans o (fun n f => .inl (.inl f))); have KB12 := Lib.hid (KB11.out.only o (by have := HGB.out; omega)); have SB_12 := Lib.hid (slMv HFG.out o SB_11.out); clear p o))
 go_end0
 exact ⟨rfl, ⟨_, _, _, _, _, KB12.out, _, _, _, rfl, strsN _ _, sl_nil _ _ _, SB_12.out⟩, P12.out, O12.out, (by have h3 := IRB.out; have h4 := HN.out; have h5 : (up st).i = st.i + 1 := rfl; show st.i ≤ s4.i; omega), (.inr (by have h3 := IRB.out; have h4 := HN.out; have h5 : (up st).i = st.i + 1 := rfl; show st.i < s4.i; omega))⟩
end
end Go.Proofs.Yteakhlnnepjhpaa
/- The document's parser: statements: a call, a set (printed by genpr11.py). -/
namespace Go.Proofs.Yteakhlnnepjhpaa
open Go.RowKit PrM
set_option linter.unusedVariables false
set_option linter.unusedSimpArgs false
section
variable {F g tg c : Nat} {T : List LxM.T}
set_option maxRecDepth 20000 in
set_option maxHeartbeats 16000000 in
theorem stat_defA (hG : PrM.Good T) (hF : OkF g tg c T F) (W : World) (st : St) (a : Int) (b d : Nat) (h : PS W g tg c T st) (hb : Blk W b #[.int .i64 0, .int .i64 a, .slice none 0 0, .slice none 0 0, .slice none 0 0] 42) (hgb : g < b) (h0 : st.code = 0) (hd : d ≤ 100) (hm : 100 * (101 - d) + 6 ≤ F + 1) (q0 : is T ⟨#[108, 111, 99, 97, 108]⟩ st = false) (q1 : is T ⟨#[105, 102]⟩ st = false) (q2 : is T ⟨#[119, 104, 105, 108, 101]⟩ st = false) (q3 : is T ⟨#[114, 101, 112, 101, 97, 116]⟩ st = false) (q4 : is T ⟨#[102, 111, 114]⟩ st = false) (q5 : is T ⟨#[98, 114, 101, 97, 107]⟩ st = false) (q6 : is T ⟨#[100, 111]⟩ st = false) (hk : ((fs T F).behind (.e 6 (place T st) 0 (nameT T st) 0 .nil .nil) (d : Int) (nameS T st)).1.kind = 10) (hq : is T ⟨#[61]⟩ ((fs T F).behind (.e 6 (place T st) 0 (nameT T st) 0 .nil .nil) (d : Int) (nameS T st)).2 = false) :
  Calls Try.prog 38 #[ptr g, ptr b, .int .i64 (d : Int)] W (SQ W g b tg c T st ((fs T (F + 1)).stat (.s 0 a [] .nil .nil) d st)) := by
 have e1 : (fs T (F + 1)).stat (.s 0 a [] .nil .nil) d st = statS T (fs T F) d a st := rfl
 rw [e1]
 unfold PrM.statS
 rw [q0, if_neg (show ¬ (false = true) from nofun), q1, if_neg (show ¬ (false = true) from nofun), q2, if_neg (show ¬ (false = true) from nofun), q3, if_neg (show ¬ (false = true) from nofun), q4, if_neg (show ¬ (false = true) from nofun), q5, if_neg (show ¬ (false = true) from nofun), q6, if_neg (show ¬ (false = true) from nofun)]
 clear e1
 have EX := Lib.hid (fun W1 st1 (h1 : PS W1 g tg c T st1) => hF.exp W1 st1 d h1 hd (by omega))
 have BL := Lib.hid (fun W1 st1 (h1 : PS W1 g tg c T st1) => hF.block W1 st1 d h1 hd (by omega))
 have BO := Lib.hid (fun W1 st1 (h1 : PS W1 g tg c T st1) => hF.body W1 st1 d h1 hd (by omega))
 have BH := Lib.hid (fun W1 st1 P x v0 v1 v2 v3 v4 v5 v6 (h1 : PS W1 g tg c T st1) hr hp => hF.behind W1 st1 P x v0 v1 v2 v3 v4 v5 v6 d h1 hr hp hd (by omega))
 have HOF := Lib.hid (fun x st1 => behind_off T F x (d : Int) (st := st1))
 have HXF := Lib.hid (fun st1 => exp_off T F (d : Int) (st := st1))
 have HPR := Lib.hid (show (nameS T st).code ≠ 0 ∨ st.i < (nameS T st).i by unfold nameS; rw [if_pos h0]; split; exact .inr (Nat.lt_succ_self _); exact .inl (by unfold PrM.fail; rw [if_pos h0]; exact (by decide : (14 : Int) ≠ 0)))
 have NG := Lib.hid (show ¬ Lo W g by have := h.blk.lt; unfold Lo; omega)
 have NA := Lib.hid (fun W1 (h1 : PS W1 g tg c T st) => name_any h1 hG)
 have HNI := Lib.hid (name_i (T := T) st)
 generalize nameT T st = nm at *
 generalize nameS T st = s2 at *
 have BH2 := Lib.hid (fun W1 (h1 : PS W1 g tg c T s2) => BH.out W1 s2 (Lo W) (.e 6 (place T st) 0 nm 0 .nil .nil) (.int .i64 6) (.int .i64 (place T st)) (.int .i64 0) (.string nm) (.int .i64 0) (.slice none 0 0) (.slice none 0 0) h1 (leaf_cells W1 (Lo W) 6 (place T st) 0 nm 0) NG.out)
 have HOF := Lib.hid (fun k => HOF.out (.e 6 (place T st) 0 nm 0 .nil .nil) s2 k)
 generalize (fs T F).behind (.e 6 (place T st) 0 nm 0 .nil .nil) (d : Int) s2 = r at *
 dsimp only
 generalize (fs T F).exp (d : Int) = ex at *
 generalize (fs T F).block (d : Int) = bl at *
 generalize (fs T F).body (d : Int) = bo at *
 have HG := Lib.hid h.blk.lt
 have HB := Lib.hid hb.lt
 have HGB := Lib.hid hgb
 have HGG := Lib.hid hG
 have HFG : Hid (∀ k, k = g → k < W.heap.size) := Lib.hid (fun k e => e ▸ HG.out)
 have HFB : Hid (∀ k, k = b → k < W.heap.size) := Lib.hid (fun k e => e ▸ HB.out)
 have P0 := Lib.hid h
 have O0 := Lib.hid (Only.refl (fun k => k = g ∨ k = b) W)
 have KB0 := Lib.hid hb
 have i0 : (0 : Int) ≤ (d : Int) := by omega
 have i1 : (d : Int) ≤ 100 := by omega
 have OQ0 := Lib.hid (fun W1 (h1 : PS W1 g tg c T st) => opt_any h1 HGG.out ⟨#[108, 111, 99, 97, 108]⟩)
 have OQ1 := Lib.hid (fun W1 (h1 : PS W1 g tg c T st) => opt_any h1 HGG.out ⟨#[105, 102]⟩)
 have OQ2 := Lib.hid (fun W1 (h1 : PS W1 g tg c T st) => opt_any h1 HGG.out ⟨#[119, 104, 105, 108, 101]⟩)
 have OQ3 := Lib.hid (fun W1 (h1 : PS W1 g tg c T st) => opt_any h1 HGG.out ⟨#[114, 101, 112, 101, 97, 116]⟩)
 have OQ4 := Lib.hid (fun W1 (h1 : PS W1 g tg c T st) => opt_any h1 HGG.out ⟨#[102, 111, 114]⟩)
 have OQ5 := Lib.hid (fun W1 (h1 : PS W1 g tg c T st) => opt_any h1 HGG.out ⟨#[98, 114, 101, 97, 107]⟩)
 have OQ6 := Lib.hid (fun W1 (h1 : PS W1 g tg c T st) => opt_any h1 HGG.out ⟨#[100, 111]⟩)
 unfold PrM.opt at OQ0 OQ1 OQ2 OQ3 OQ4 OQ5 OQ6
 rw [q0, if_neg (show ¬ (false = true) from nofun)] at OQ0
 rw [q1, if_neg (show ¬ (false = true) from nofun)] at OQ1
 rw [q2, if_neg (show ¬ (false = true) from nofun)] at OQ2
 rw [q3, if_neg (show ¬ (false = true) from nofun)] at OQ3
 rw [q4, if_neg (show ¬ (false = true) from nofun)] at OQ4
 rw [q5, if_neg (show ¬ (false = true) from nofun)] at OQ5
 rw [q6, if_neg (show ¬ (false = true) from nofun)] at OQ6
 clear h hb hgb hG hF hm hd h0 q0 q1 q2 q3 q4 q5 q6
 have hkb : (r.1.kind == 10) = true := by rw [hk]; rfl
 have IS := Lib.hid (fun W1 (h1 : PS W1 g tg c T r.2) => is_any h1 ⟨#[61]⟩)
 rw [hq] at IS
 rw [if_pos ⟨hk, hq⟩]
 clear hk hq BH HXF
 go_enter Try.func38, Try.ntmps38
 go_wp2_with (first
  |(go_at_call 35; (with_reducible refine (OQ0.out _ P0.out).mono ?_); rintro e w1 ⟨rfl, p, o⟩; have P1 := Lib.hid p; have O1 := Lib.hid (O0.out.trans o (fun n f => .inl (.inl f))); have KB1 := Lib.hid (KB0.out.only o (by have := HGB.out; omega)); clear p o)
  |(go_at_call 35; (with_reducible refine (OQ1.out _ P1.out).mono ?_); rintro e w2 ⟨rfl, p, o⟩; have P2 := Lib.hid p; have O2 := Lib.hid (O1.out.trans o (fun n f => .inl (.inl f))); have KB2 := Lib.hid (KB1.out.only o (by have := HGB.out; omega)); clear p o)
  |(go_at_call 35; (with_reducible refine (OQ2.out _ P2.out).mono ?_); rintro e w3 ⟨rfl, p, o⟩; have P3 := Lib.hid p; have O3 := Lib.hid (O2.out.trans o (fun n f => .inl (.inl f))); have KB3 := Lib.hid (KB2.out.only o (by have := HGB.out; omega)); clear p o)
  |(go_at_call 35; (with_reducible refine (OQ3.out _ P3.out).mono ?_); rintro e w4 ⟨rfl, p, o⟩; have P4 := Lib.hid p; have O4 := Lib.hid (O3.out.trans o (fun n f => .inl (.inl f))); have KB4 := Lib.hid (KB3.out.only o (by have := HGB.out; omega)); clear p o)
  |(go_at_call 35; (with_reducible refine (OQ4.out _ P4.out).mono ?_); rintro e w5 ⟨rfl, p, o⟩; have P5 := Lib.hid p; have O5 := Lib.hid (O4.out.trans o (fun n f => .inl (.inl f))); have KB5 := Lib.hid (KB4.out.only o (by have := HGB.out; omega)); clear p o)
  |(go_at_call 35; (with_reducible refine (OQ5.out _ P5.out).mono ?_); rintro e w6 ⟨rfl, p, o⟩; have P6 := Lib.hid p; have O6 := Lib.hid (O5.out.trans o (fun n f => .inl (.inl f))); have KB6 := Lib.hid (KB5.out.only o (by have := HGB.out; omega)); clear p o)
  |(go_at_call 35; (with_reducible refine (OQ6.out _ P6.out).mono ?_); rintro e w7 ⟨rfl, p, o⟩; have P7 := Lib.hid p; have O7 := Lib.hid (O6.out.trans o (fun n f => .inl (.inl f))); have KB7 := Lib.hid (KB6.out.only o (by have := HGB.out; omega)); clear p o)
  |(go_at_call 34; (with_reducible refine (place_any P7.out).mono ?_); rintro e w8 ⟨rfl, sm⟩; have P8 := Lib.hid (P7.out.sm sm); have O8 := Lib.hid (O7.out.trans (Only.of_below (F := fun _ => False) (sm.below _)) (fun _ f => f.elim)); have KB8 := Lib.hid (KB7.out.sm sm); clear sm)
  |(go_at_call 49; (with_reducible refine (NA.out _ P8.out).mono ?_); rintro e w9 ⟨rfl, p, o⟩; have P9 := Lib.hid p; have O9 := Lib.hid (O8.out.trans o (fun n f => .inl (.inl f))); have KB9 := Lib.hid (KB8.out.only o (by have := HGB.out; omega)); clear p o)
  |(go_at_call 52; (with_reducible refine (BH2.out _ P9.out).mono ?_); rintro e w10 ⟨⟨u0, u1, u2, u3, u4, u5, u6, rfl, rd⟩, p, o, ii⟩; obtain rfl := kind_cells rd; have P10 := Lib.hid p; have O10 := Lib.hid (O9.out.trans o (fun n f => .inl (.inl f))); have KB10 := Lib.hid (KB9.out.only o (by have := HGB.out; omega)); have RX_10 := Lib.hid (wideO O9.out.size rd); have IX := Lib.hid ii; have NB := Lib.hid (Blk.new w10 Z7 39); clear rd ii; clear p o)
  |(refine wpList_store_row rfl 39 (.tmp 8) (.tmp 17) rfl w10.heap.size #[.int .i64 r.1.kind, u1, u2, u3, u4, u5, u6] rfl rfl 39 _ NB.out sizeE rfl (ones7 (Rd.one_cells _ _ RX_10.out)) ?_; obtain ⟨w11, hw, bb, K8_11, ss⟩ := box7 w10 #[.int .i64 r.1.kind, u1, u2, u3, u4, u5, u6] Z7; rw [← hw]; clear hw NB; have N8 := Lib.hid (show W.heap.size ≤ w10.heap.size from O10.out.size); have P11 := Lib.hid (P10.out.only (Only.of_below (F := fun _ => False) bb.out) (fun _ f => f.elim)); have O11 := Lib.hid (O10.out.trans (Only.of_below (F := fun _ => False) bb.out) (fun _ f => f.elim)); have KB11 := Lib.hid (KB10.out.below bb.out KB10.out.lt); have RX_11 := Lib.hid (clBel (Nat.le_refl _) bb.out RX_10.out); clear bb ss; obtain ⟨⟨k0, k1, k2, k3, k4, k5, k6⟩, -⟩ := K8_11.out.seven)
  |(go_at_call 36; (with_reducible refine (IS.out _ P11.out).mono ?_); rintro e w12 ⟨rfl, bb⟩; have P12 := Lib.hid (P11.out.below bb); have O12 := Lib.hid (O11.out.trans (Only.of_below (F := fun _ => False) bb) (fun _ f => f.elim)); have KB12 := Lib.hid (KB11.out.below bb KB11.out.lt); have K8_12 := Lib.hid (K8_11.out.below bb K8_11.out.lt); have RX_12 := Lib.hid (clBel (Nat.le_refl _) bb RX_11.out); clear bb k0 k1 k2 k3 k4 k5 k6; obtain ⟨⟨k0, k1, k2, k3, k4, k5, k6⟩, -⟩ := K8_12.out.seven))
 have KD := Lib.hid (blk_al (.cells #[.int .i64 r.1.kind, u1, u2, u3, u4, u5, u6] 39) KB12.out)
 obtain ⟨⟨z0, z1, z2, z3, z4⟩, f0, f1, f2, f3, f4⟩ := KD.out.five
 obtain ⟨⟨y0, y1, y2, y3, y4⟩, g0, g1, g2, g3, g4⟩ := KB12.out.five
 have KS := Lib.hid (blkF0 KB12.out (.int .i64 3))
 have KSA := Lib.hid (blk_al (.cells #[.int .i64 r.1.kind, u1, u2, u3, u4, u5, u6] 39) KS.out)
 obtain ⟨⟨x0, x1, x2, x3, x4⟩, e0, e1, e2, e3, e4⟩ := KSA.out.five
 have ob := only_cell w12 b 0 (.int .i64 3)
 have K8S := Lib.hid (K8_12.out.only ob (by have := N8.out; have := HB.out; omega))
 clear ob
 obtain ⟨⟨m0, m1, m2, m3, m4, m5, m6⟩, -⟩ := K8S.out.seven
 go_region
 ·have SL_13 := Lib.hid (slOneE O12.out.size RX_12.out)
  have P13 := Lib.hid (P12.out.alloc (.cells #[.int .i64 r.1.kind, u1, u2, u3, u4, u5, u6] 39))
  have O13 := Lib.hid (O12.out.alloc (.cells #[.int .i64 r.1.kind, u1, u2, u3, u4, u5, u6] 39))
  have KB13 := Lib.hid (blk_al (.cells #[.int .i64 r.1.kind, u1, u2, u3, u4, u5, u6] 39) KB12.out)
  have ob := only_cell (w12.alloc (.cells #[.int .i64 r.1.kind, u1, u2, u3, u4, u5, u6] 39)) b 0 (.int .i64 3)
  have P14 := Lib.hid (P13.out.only ob (fun i e => .inl (by have := HGB.out; omega)))
  have O14 := Lib.hid (O13.out.trans ob (fun n f => .inl (.inr f)))
  have KB14 := Lib.hid (blkF0 KB13.out (.int .i64 3))
  have SL_14 := Lib.hid (slMv HFB.out ob SL_13.out)
  clear ob
  have ob := only_cell ((w12.alloc (.cells #[.int .i64 r.1.kind, u1, u2, u3, u4, u5, u6] 39)).setCell ⟨b, 0, none⟩ (.int .i64 3)) b 3 (.slice (some ⟨w12.heap.size, 0, none⟩) 1 1)
  have P15 := Lib.hid (P14.out.only ob (fun i e => .inl (by have := HGB.out; omega)))
  have O15 := Lib.hid (O14.out.trans ob (fun n f => .inl (.inr f)))
  have KB15 := Lib.hid (blkF3 KB14.out (.slice (some ⟨w12.heap.size, 0, none⟩) 1 1))
  have SL_15 := Lib.hid (slMv HFB.out ob SL_14.out)
  clear ob
  have P16 := Lib.hid (P15.out.sm (Sm.drewn _))
  have O16 := Lib.hid O15.out.drew
  have KB16 := Lib.hid (KB15.out.keep (Below.refl _ _).drew)
  have SL_16 := Lib.hid (slBel (Nat.le_refl _) (Below.refl _ _).drew SL_15.out)
  generalize (((w12.alloc (.cells #[.int .i64 r.1.kind, u1, u2, u3, u4, u5, u6] 39)).setCell ⟨b, 0, none⟩ (.int .i64 3)).setCell ⟨b, 3, none⟩ (.slice (some ⟨w12.heap.size, 0, none⟩) 1 1)).drew = wz at *
  clear y0 y1 y2 y3 y4 z0 z1 z2 z3 z4 x0 x1 x2 x3 x4 m0 m1 m2 m3 m4 m5 m6 f0 f1 f2 f3 f4 g0 g1 g2 g3 g4 e0 e1 e2 e3 e4
  go_wp2_with fail
  try simp only [Exit.inBlock, Exit.then]
  refine bodyPost_ret (results_none rfl _ _ _) rfl ?_
  exact ⟨rfl, ⟨_, _, _, _, _, KB16.out, _, _, _, rfl, strsN _ _, SL_16.out, sl_nil _ _ _⟩, P16.out, O16.out, (by have h1 := HNI.out; have h2 := IX.out; show st.i ≤ r.2.i; omega), HPR.out.elim (fun k => .inl (show r.2.code ≠ 0 by rw [HOF.out k]; exact k)) (fun k => .inr (show st.i < r.2.i by have h2 := IX.out; omega))⟩
 ·have ob := only_cell w12 b 0 (.int .i64 3)
  have P13 := Lib.hid (P12.out.only ob (fun i e => .inl (by have := HGB.out; omega)))
  have O13 := Lib.hid (O12.out.trans ob (fun n f => .inl (.inr f)))
  have KB13 := Lib.hid (blkF0 KB12.out (.int .i64 3))
  have RX_13 := Lib.hid (clMv HFB.out ob RX_12.out)
  clear ob
  have k := slOneE O13.out.size RX_13.out
  rw [show (w12.setCell ⟨b, 0, none⟩ (.int .i64 3)).heap.size = w12.heap.size from by simp [World.setCell]] at k
  have SL_14 := Lib.hid k
  clear k
  have P14 := Lib.hid (P13.out.alloc (.cells #[.int .i64 r.1.kind, u1, u2, u3, u4, u5, u6] 39))
  have O14 := Lib.hid (O13.out.alloc (.cells #[.int .i64 r.1.kind, u1, u2, u3, u4, u5, u6] 39))
  have KB14 := Lib.hid (blk_al (.cells #[.int .i64 r.1.kind, u1, u2, u3, u4, u5, u6] 39) KB13.out)
  have ob := only_cell ((w12.setCell ⟨b, 0, none⟩ (.int .i64 3)).alloc (.cells #[.int .i64 r.1.kind, u1, u2, u3, u4, u5, u6] 39)) b 3 (.slice (some ⟨w12.heap.size, 0, none⟩) 1 1)
  have P15 := Lib.hid (P14.out.only ob (fun i e => .inl (by have := HGB.out; omega)))
  have O15 := Lib.hid (O14.out.trans ob (fun n f => .inl (.inr f)))
  have KB15 := Lib.hid (blkF3 KB14.out (.slice (some ⟨w12.heap.size, 0, none⟩) 1 1))
  have SL_15 := Lib.hid (slMv HFB.out ob SL_14.out)
  clear ob
  have P16 := Lib.hid (P15.out.sm (Sm.drewn _))
  have O16 := Lib.hid O15.out.drew
  have KB16 := Lib.hid (KB15.out.keep (Below.refl _ _).drew)
  have SL_16 := Lib.hid (slBel (Nat.le_refl _) (Below.refl _ _).drew SL_15.out)
  generalize (((w12.setCell ⟨b, 0, none⟩ (.int .i64 3)).alloc (.cells #[.int .i64 r.1.kind, u1, u2, u3, u4, u5, u6] 39)).setCell ⟨b, 3, none⟩ (.slice (some ⟨w12.heap.size, 0, none⟩) 1 1)).drew = wz at *
  clear y0 y1 y2 y3 y4 z0 z1 z2 z3 z4 x0 x1 x2 x3 x4 m0 m1 m2 m3 m4 m5 m6 f0 f1 f2 f3 f4 g0 g1 g2 g3 g4 e0 e1 e2 e3 e4
  go_wp2_with fail
  try simp only [Exit.inBlock, Exit.then]
  refine bodyPost_ret (results_none rfl _ _ _) rfl ?_
  exact ⟨rfl, ⟨_, _, _, _, _, KB16.out, _, _, _, rfl, strsN _ _, SL_16.out, sl_nil _ _ _⟩, P16.out, O16.out, (by have h1 := HNI.out; have h2 := IX.out; show st.i ≤ r.2.i; omega), HPR.out.elim (fun k => .inl (show r.2.code ≠ 0 by rw [HOF.out k]; exact k)) (fun k => .inr (show st.i < r.2.i by have h2 := IX.out; omega))⟩
set_option maxRecDepth 20000 in
set_option maxHeartbeats 16000000 in
theorem stat_defB (hG : PrM.Good T) (hF : OkF g tg c T F) (W : World) (st : St) (a : Int) (b d : Nat) (h : PS W g tg c T st) (hb : Blk W b #[.int .i64 0, .int .i64 a, .slice none 0 0, .slice none 0 0, .slice none 0 0] 42) (hgb : g < b) (h0 : st.code = 0) (hd : d ≤ 100) (hm : 100 * (101 - d) + 6 ≤ F + 1) (q0 : is T ⟨#[108, 111, 99, 97, 108]⟩ st = false) (q1 : is T ⟨#[105, 102]⟩ st = false) (q2 : is T ⟨#[119, 104, 105, 108, 101]⟩ st = false) (q3 : is T ⟨#[114, 101, 112, 101, 97, 116]⟩ st = false) (q4 : is T ⟨#[102, 111, 114]⟩ st = false) (q5 : is T ⟨#[98, 114, 101, 97, 107]⟩ st = false) (q6 : is T ⟨#[100, 111]⟩ st = false) (hk : ((fs T F).behind (.e 6 (place T st) 0 (nameT T st) 0 .nil .nil) (d : Int) (nameS T st)).1.kind = 10) (hq : is T ⟨#[61]⟩ ((fs T F).behind (.e 6 (place T st) 0 (nameT T st) 0 .nil .nil) (d : Int) (nameS T st)).2 = true) :
  Calls Try.prog 38 #[ptr g, ptr b, .int .i64 (d : Int)] W (SQ W g b tg c T st ((fs T (F + 1)).stat (.s 0 a [] .nil .nil) d st)) := by
 have e1 : (fs T (F + 1)).stat (.s 0 a [] .nil .nil) d st = statS T (fs T F) d a st := rfl
 rw [e1]
 unfold PrM.statS
 rw [q0, if_neg (show ¬ (false = true) from nofun), q1, if_neg (show ¬ (false = true) from nofun), q2, if_neg (show ¬ (false = true) from nofun), q3, if_neg (show ¬ (false = true) from nofun), q4, if_neg (show ¬ (false = true) from nofun), q5, if_neg (show ¬ (false = true) from nofun), q6, if_neg (show ¬ (false = true) from nofun)]
 clear e1
 have EX := Lib.hid (fun W1 st1 (h1 : PS W1 g tg c T st1) => hF.exp W1 st1 d h1 hd (by omega))
 have BL := Lib.hid (fun W1 st1 (h1 : PS W1 g tg c T st1) => hF.block W1 st1 d h1 hd (by omega))
 have BO := Lib.hid (fun W1 st1 (h1 : PS W1 g tg c T st1) => hF.body W1 st1 d h1 hd (by omega))
 have BH := Lib.hid (fun W1 st1 P x v0 v1 v2 v3 v4 v5 v6 (h1 : PS W1 g tg c T st1) hr hp => hF.behind W1 st1 P x v0 v1 v2 v3 v4 v5 v6 d h1 hr hp hd (by omega))
 have HOF := Lib.hid (fun x st1 => behind_off T F x (d : Int) (st := st1))
 have HXF := Lib.hid (fun st1 => exp_off T F (d : Int) (st := st1))
 have HPR := Lib.hid (show (nameS T st).code ≠ 0 ∨ st.i < (nameS T st).i by unfold nameS; rw [if_pos h0]; split; exact .inr (Nat.lt_succ_self _); exact .inl (by unfold PrM.fail; rw [if_pos h0]; exact (by decide : (14 : Int) ≠ 0)))
 have NG := Lib.hid (show ¬ Lo W g by have := h.blk.lt; unfold Lo; omega)
 have NA := Lib.hid (fun W1 (h1 : PS W1 g tg c T st) => name_any h1 hG)
 have HNI := Lib.hid (name_i (T := T) st)
 generalize nameT T st = nm at *
 generalize nameS T st = s2 at *
 have BH2 := Lib.hid (fun W1 (h1 : PS W1 g tg c T s2) => BH.out W1 s2 (Lo W) (.e 6 (place T st) 0 nm 0 .nil .nil) (.int .i64 6) (.int .i64 (place T st)) (.int .i64 0) (.string nm) (.int .i64 0) (.slice none 0 0) (.slice none 0 0) h1 (leaf_cells W1 (Lo W) 6 (place T st) 0 nm 0) NG.out)
 have HOF := Lib.hid (fun k => HOF.out (.e 6 (place T st) 0 nm 0 .nil .nil) s2 k)
 generalize (fs T F).behind (.e 6 (place T st) 0 nm 0 .nil .nil) (d : Int) s2 = r at *
 dsimp only
 generalize (fs T F).exp (d : Int) = ex at *
 generalize (fs T F).block (d : Int) = bl at *
 generalize (fs T F).body (d : Int) = bo at *
 have HG := Lib.hid h.blk.lt
 have HB := Lib.hid hb.lt
 have HGB := Lib.hid hgb
 have HGG := Lib.hid hG
 have HFG : Hid (∀ k, k = g → k < W.heap.size) := Lib.hid (fun k e => e ▸ HG.out)
 have HFB : Hid (∀ k, k = b → k < W.heap.size) := Lib.hid (fun k e => e ▸ HB.out)
 have P0 := Lib.hid h
 have O0 := Lib.hid (Only.refl (fun k => k = g ∨ k = b) W)
 have KB0 := Lib.hid hb
 have i0 : (0 : Int) ≤ (d : Int) := by omega
 have i1 : (d : Int) ≤ 100 := by omega
 have OQ0 := Lib.hid (fun W1 (h1 : PS W1 g tg c T st) => opt_any h1 HGG.out ⟨#[108, 111, 99, 97, 108]⟩)
 have OQ1 := Lib.hid (fun W1 (h1 : PS W1 g tg c T st) => opt_any h1 HGG.out ⟨#[105, 102]⟩)
 have OQ2 := Lib.hid (fun W1 (h1 : PS W1 g tg c T st) => opt_any h1 HGG.out ⟨#[119, 104, 105, 108, 101]⟩)
 have OQ3 := Lib.hid (fun W1 (h1 : PS W1 g tg c T st) => opt_any h1 HGG.out ⟨#[114, 101, 112, 101, 97, 116]⟩)
 have OQ4 := Lib.hid (fun W1 (h1 : PS W1 g tg c T st) => opt_any h1 HGG.out ⟨#[102, 111, 114]⟩)
 have OQ5 := Lib.hid (fun W1 (h1 : PS W1 g tg c T st) => opt_any h1 HGG.out ⟨#[98, 114, 101, 97, 107]⟩)
 have OQ6 := Lib.hid (fun W1 (h1 : PS W1 g tg c T st) => opt_any h1 HGG.out ⟨#[100, 111]⟩)
 unfold PrM.opt at OQ0 OQ1 OQ2 OQ3 OQ4 OQ5 OQ6
 rw [q0, if_neg (show ¬ (false = true) from nofun)] at OQ0
 rw [q1, if_neg (show ¬ (false = true) from nofun)] at OQ1
 rw [q2, if_neg (show ¬ (false = true) from nofun)] at OQ2
 rw [q3, if_neg (show ¬ (false = true) from nofun)] at OQ3
 rw [q4, if_neg (show ¬ (false = true) from nofun)] at OQ4
 rw [q5, if_neg (show ¬ (false = true) from nofun)] at OQ5
 rw [q6, if_neg (show ¬ (false = true) from nofun)] at OQ6
 clear h hb hgb hG hF hm hd h0 q0 q1 q2 q3 q4 q5 q6
 have hkb : (r.1.kind == 10) = true := by rw [hk]; rfl
 have IS := Lib.hid (fun W1 (h1 : PS W1 g tg c T r.2) => is_any h1 ⟨#[61]⟩)
 rw [hq] at IS
 rw [if_neg (show ¬ (r.1.kind = 10 ∧ is T ⟨#[61]⟩ r.2 = false) from fun z => by rw [hq] at z; exact absurd z.2 (by decide)), if_pos hk]
 have FA := Lib.hid (fun W1 (h1 : PS W1 g tg c T r.2) => fail_any h1 14)
 have HFI := Lib.hid (show (PrM.fail T 14 r.2).i = r.2.i by unfold PrM.fail; split <;> rfl)
 have HFO := Lib.hid (fun z => fail_off T (st := r.2) z 14)
 generalize PrM.fail T 14 r.2 = s3 at *
 clear hk hq BH
 have TQ := Lib.hid (fun W1 (h1 : PS W1 g tg c T s3) => take_any h1 HGG.out ⟨#[61]⟩)
 have HTI := Lib.hid (take_i2 (T := T) ⟨#[61]⟩ s3)
 have HTO := Lib.hid (fun z => take_off T (st := s3) z ⟨#[61]⟩)
 generalize PrM.take T ⟨#[61]⟩ s3 = s4 at *
 have EX5 := Lib.hid (fun W1 (h1 : PS W1 g tg c T s4) => EX.out W1 _ h1)
 have HXO := Lib.hid (fun z => HXF.out s4 z)
 generalize ex s4 = q at *
 try dsimp only
 go_enter Try.func38, Try.ntmps38
 go_wp2_with (first
  |(go_at_call 35; (with_reducible refine (OQ0.out _ P0.out).mono ?_); rintro e w1 ⟨rfl, p, o⟩; have P1 := Lib.hid p; have O1 := Lib.hid (O0.out.trans o (fun n f => .inl (.inl f))); have KB1 := Lib.hid (KB0.out.only o (by have := HGB.out; omega)); clear p o)
  |(go_at_call 35; (with_reducible refine (OQ1.out _ P1.out).mono ?_); rintro e w2 ⟨rfl, p, o⟩; have P2 := Lib.hid p; have O2 := Lib.hid (O1.out.trans o (fun n f => .inl (.inl f))); have KB2 := Lib.hid (KB1.out.only o (by have := HGB.out; omega)); clear p o)
  |(go_at_call 35; (with_reducible refine (OQ2.out _ P2.out).mono ?_); rintro e w3 ⟨rfl, p, o⟩; have P3 := Lib.hid p; have O3 := Lib.hid (O2.out.trans o (fun n f => .inl (.inl f))); have KB3 := Lib.hid (KB2.out.only o (by have := HGB.out; omega)); clear p o)
  |(go_at_call 35; (with_reducible refine (OQ3.out _ P3.out).mono ?_); rintro e w4 ⟨rfl, p, o⟩; have P4 := Lib.hid p; have O4 := Lib.hid (O3.out.trans o (fun n f => .inl (.inl f))); have KB4 := Lib.hid (KB3.out.only o (by have := HGB.out; omega)); clear p o)
  |(go_at_call 35; (with_reducible refine (OQ4.out _ P4.out).mono ?_); rintro e w5 ⟨rfl, p, o⟩; have P5 := Lib.hid p; have O5 := Lib.hid (O4.out.trans o (fun n f => .inl (.inl f))); have KB5 := Lib.hid (KB4.out.only o (by have := HGB.out; omega)); clear p o)
  |(go_at_call 35; (with_reducible refine (OQ5.out _ P5.out).mono ?_); rintro e w6 ⟨rfl, p, o⟩; have P6 := Lib.hid p; have O6 := Lib.hid (O5.out.trans o (fun n f => .inl (.inl f))); have KB6 := Lib.hid (KB5.out.only o (by have := HGB.out; omega)); clear p o)
  |(go_at_call 35; (with_reducible refine (OQ6.out _ P6.out).mono ?_); rintro e w7 ⟨rfl, p, o⟩; have P7 := Lib.hid p; have O7 := Lib.hid (O6.out.trans o (fun n f => .inl (.inl f))); have KB7 := Lib.hid (KB6.out.only o (by have := HGB.out; omega)); clear p o)
  |(go_at_call 34; (with_reducible refine (place_any P7.out).mono ?_); rintro e w8 ⟨rfl, sm⟩; have P8 := Lib.hid (P7.out.sm sm); have O8 := Lib.hid (O7.out.trans (Only.of_below (F := fun _ => False) (sm.below _)) (fun _ f => f.elim)); have KB8 := Lib.hid (KB7.out.sm sm); clear sm)
  |(go_at_call 49; (with_reducible refine (NA.out _ P8.out).mono ?_); rintro e w9 ⟨rfl, p, o⟩; have P9 := Lib.hid p; have O9 := Lib.hid (O8.out.trans o (fun n f => .inl (.inl f))); have KB9 := Lib.hid (KB8.out.only o (by have := HGB.out; omega)); clear p o)
  |(go_at_call 52; (with_reducible refine (BH2.out _ P9.out).mono ?_); rintro e w10 ⟨⟨u0, u1, u2, u3, u4, u5, u6, rfl, rd⟩, p, o, ii⟩; obtain rfl := kind_cells rd; have P10 := Lib.hid p; have O10 := Lib.hid (O9.out.trans o (fun n f => .inl (.inl f))); have KB10 := Lib.hid (KB9.out.only o (by have := HGB.out; omega)); have RX_10 := Lib.hid (wideO O9.out.size rd); have IX := Lib.hid ii; have NB := Lib.hid (Blk.new w10 Z7 39); clear rd ii; clear p o)
  |(refine wpList_store_row rfl 39 (.tmp 8) (.tmp 17) rfl w10.heap.size #[.int .i64 r.1.kind, u1, u2, u3, u4, u5, u6] rfl rfl 39 _ NB.out sizeE rfl (ones7 (Rd.one_cells _ _ RX_10.out)) ?_; obtain ⟨w11, hw, bb, K8_11, ss⟩ := box7 w10 #[.int .i64 r.1.kind, u1, u2, u3, u4, u5, u6] Z7; rw [← hw]; clear hw NB; have N8 := Lib.hid (show W.heap.size ≤ w10.heap.size from O10.out.size); have P11 := Lib.hid (P10.out.only (Only.of_below (F := fun _ => False) bb.out) (fun _ f => f.elim)); have O11 := Lib.hid (O10.out.trans (Only.of_below (F := fun _ => False) bb.out) (fun _ f => f.elim)); have KB11 := Lib.hid (KB10.out.below bb.out KB10.out.lt); have RX_11 := Lib.hid (clBel (Nat.le_refl _) bb.out RX_10.out); clear bb ss; obtain ⟨⟨k0, k1, k2, k3, k4, k5, k6⟩, -⟩ := K8_11.out.seven)
  |(go_at_call 36; (with_reducible refine (IS.out _ P11.out).mono ?_); rintro e w12 ⟨rfl, bb⟩; have P12 := Lib.hid (P11.out.below bb); have O12 := Lib.hid (O11.out.trans (Only.of_below (F := fun _ => False) bb) (fun _ f => f.elim)); have KB12 := Lib.hid (KB11.out.below bb KB11.out.lt); have K8_12 := Lib.hid (K8_11.out.below bb K8_11.out.lt); have RX_12 := Lib.hid (clBel (Nat.le_refl _) bb RX_11.out); clear bb k0 k1 k2 k3 k4 k5 k6; obtain ⟨⟨k0, k1, k2, k3, k4, k5, k6⟩, -⟩ := K8_12.out.seven)
  |(go_at_call 17; (with_reducible refine (FA.out _ P12.out).mono ?_); rintro e w13 ⟨rfl, p, o⟩; have P13 := Lib.hid p; have O13 := Lib.hid (O12.out.trans o (fun n f => .inl (.inl f))); have KB13 := Lib.hid (KB12.out.only o (by have := HGB.out; omega)); have RX_13 := Lib.hid (clMv HFG.out o RX_12.out); have K8_13 := Lib.hid (K8_12.out.only o (by have := N8.out; have := HG.out; omega)); clear k0 k1 k2 k3 k4 k5 k6; obtain ⟨⟨k0, k1, k2, k3, k4, k5, k6⟩, -⟩ := K8_13.out.seven; clear p o)
  |(go_at_call 51; (with_reducible refine (TQ.out _ P13.out).mono ?_); rintro e w14 ⟨rfl, p, o⟩; have P14 := Lib.hid p; have O14 := Lib.hid (O13.out.trans o (fun n f => .inl (.inl f))); have KB14 := Lib.hid (KB13.out.only o (by have := HGB.out; omega)); have RX_14 := Lib.hid (clMv HFG.out o RX_13.out); have K8_14 := Lib.hid (K8_13.out.only o (by have := N8.out; have := HG.out; omega)); clear k0 k1 k2 k3 k4 k5 k6; obtain ⟨⟨k0, k1, k2, k3, k4, k5, k6⟩, -⟩ := K8_14.out.seven; clear p o))
 have mixed : Try.prog.follows .mixedOrders = true := by kernel_rfl
 have PD := Lib.hid (P14.out.sm (Sm.drewn w14))
 go_region_law (go_simp; go_at_call 37; (refine (EX5.out _ PD.out).mono ?_); rintro e w15 ⟨⟨q0, q1, q2, q3, q4, q5, q6, rfl, rd⟩, p, o, ii⟩; have o : Only (fun b => b = g) w14 w15 := ⟨o.os, o.tape, o.output, o.size, o.block⟩; have P15 := Lib.hid p; have O15 := Lib.hid (O14.out.trans o (fun n f => .inl (.inl f))); have KB15 := Lib.hid (KB14.out.only o (by have := HGB.out; omega)); have RX_15 := Lib.hid (clMv HFG.out o RX_14.out); have RQ_15 := Lib.hid (wideW (w1 := w14) O14.out.size rd); have IQ := Lib.hid ii; clear rd ii; have K8_15 := Lib.hid (K8_14.out.only o (by have := N8.out; have := HG.out; omega)); clear p o; obtain ⟨⟨j0, j1, j2, j3, j4, j5, j6⟩, -⟩ := K8_15.out.seven; have KD := Lib.hid (blk_al (.cells #[.int .i64 r.1.kind, u1, u2, u3, u4, u5, u6, q0, q1, q2, q3, q4, q5, q6] 39) KB15.out); obtain ⟨⟨z0, z1, z2, z3, z4⟩, f0, f1, f2, f3, f4⟩ := KD.out.five; obtain ⟨⟨y0, y1, y2, y3, y4⟩, g0, g1, g2, g3, g4⟩ := KB15.out.five; have KS := Lib.hid (blkF0 KB15.out (.int .i64 2)); have KSA := Lib.hid (blk_al (.cells #[.int .i64 r.1.kind, u1, u2, u3, u4, u5, u6, q0, q1, q2, q3, q4, q5, q6] 39) KS.out); obtain ⟨⟨x0, x1, x2, x3, x4⟩, e0, e1, e2, e3, e4⟩ := KSA.out.five; have ob := only_cell w15 b 0 (.int .i64 2); have K8S := Lib.hid (K8_15.out.only ob (by have := N8.out; have := HB.out; omega)); clear ob; obtain ⟨⟨m0, m1, m2, m3, m4, m5, m6⟩, -⟩ := K8S.out.seven)
 all_goals first
  |(have SL_16 := Lib.hid (slTwoE O15.out.size RX_15.out RQ_15.out)
    have P16 := Lib.hid (P15.out.alloc (.cells #[.int .i64 r.1.kind, u1, u2, u3, u4, u5, u6, q0, q1, q2, q3, q4, q5, q6] 39))
    have O16 := Lib.hid (O15.out.alloc (.cells #[.int .i64 r.1.kind, u1, u2, u3, u4, u5, u6, q0, q1, q2, q3, q4, q5, q6] 39))
    have KB16 := Lib.hid (blk_al (.cells #[.int .i64 r.1.kind, u1, u2, u3, u4, u5, u6, q0, q1, q2, q3, q4, q5, q6] 39) KB15.out)
    have ob := only_cell (w15.alloc (.cells #[.int .i64 r.1.kind, u1, u2, u3, u4, u5, u6, q0, q1, q2, q3, q4, q5, q6] 39)) b 0 (.int .i64 2)
    have P17 := Lib.hid (P16.out.only ob (fun i e => .inl (by have := HGB.out; omega)))
    have O17 := Lib.hid (O16.out.trans ob (fun n f => .inl (.inr f)))
    have KB17 := Lib.hid (blkF0 KB16.out (.int .i64 2))
    have SL_17 := Lib.hid (slMv HFB.out ob SL_16.out)
    clear ob
    have ob := only_cell ((w15.alloc (.cells #[.int .i64 r.1.kind, u1, u2, u3, u4, u5, u6, q0, q1, q2, q3, q4, q5, q6] 39)).setCell ⟨b, 0, none⟩ (.int .i64 2)) b 3 (.slice (some ⟨w15.heap.size, 0, none⟩) 2 2)
    have P18 := Lib.hid (P17.out.only ob (fun i e => .inl (by have := HGB.out; omega)))
    have O18 := Lib.hid (O17.out.trans ob (fun n f => .inl (.inr f)))
    have KB18 := Lib.hid (blkF3 KB17.out (.slice (some ⟨w15.heap.size, 0, none⟩) 2 2))
    have SL_18 := Lib.hid (slMv HFB.out ob SL_17.out)
    clear ob
    generalize (((w15.alloc (.cells #[.int .i64 r.1.kind, u1, u2, u3, u4, u5, u6, q0, q1, q2, q3, q4, q5, q6] 39)).setCell ⟨b, 0, none⟩ (.int .i64 2)).setCell ⟨b, 3, none⟩ (.slice (some ⟨w15.heap.size, 0, none⟩) 2 2)) = wz at *
    clear y0 y1 y2 y3 y4 z0 z1 z2 z3 z4 x0 x1 x2 x3 x4 m0 m1 m2 m3 m4 m5 m6 j0 j1 j2 j3 j4 j5 j6 k0 k1 k2 k3 k4 k5 k6 f0 f1 f2 f3 f4 g0 g1 g2 g3 g4 e0 e1 e2 e3 e4
    go_wp2_with fail
    go_end0
    exact ⟨rfl, ⟨_, _, _, _, _, KB18.out, _, _, _, rfl, strsN _ _, SL_18.out, sl_nil _ _ _⟩, P18.out, O18.out, (by have h1 := HNI.out; have h2 := IX.out; have h3 := IQ.out; have h4 := HFI.out; have h5 := HTI.out; show st.i ≤ q.2.i; omega), HPR.out.elim (fun k => .inl (show q.2.code ≠ 0 from by have e1 : r.2 = s2 := (by rw [HOF.out k]); have c1 : r.2.code ≠ 0 := (by rw [e1]; exact k); have e2 := HFO.out c1; have c2 : s3.code ≠ 0 := (by rw [e2]; exact c1); have e3 := HTO.out c2; have c3 : s4.code ≠ 0 := (by rw [e3]; exact c2); rw [HXO.out c3]; exact c3)) (fun k => .inr (show st.i < q.2.i by have h2 := IX.out; have h3 := IQ.out; have h4 := HFI.out; have h5 := HTI.out; omega))⟩)
  |(have ob := only_cell w15 b 0 (.int .i64 2)
    have P16 := Lib.hid (P15.out.only ob (fun i e => .inl (by have := HGB.out; omega)))
    have O16 := Lib.hid (O15.out.trans ob (fun n f => .inl (.inr f)))
    have KB16 := Lib.hid (blkF0 KB15.out (.int .i64 2))
    have RX_16 := Lib.hid (clMv HFB.out ob RX_15.out)
    have RQ_16 := Lib.hid (clMv HFB.out ob RQ_15.out)
    clear ob
    have k := slTwoE O16.out.size RX_16.out RQ_16.out
    rw [show (w15.setCell ⟨b, 0, none⟩ (.int .i64 2)).heap.size = w15.heap.size from by simp [World.setCell]] at k
    have SL_17 := Lib.hid k
    clear k
    have P17 := Lib.hid (P16.out.alloc (.cells #[.int .i64 r.1.kind, u1, u2, u3, u4, u5, u6, q0, q1, q2, q3, q4, q5, q6] 39))
    have O17 := Lib.hid (O16.out.alloc (.cells #[.int .i64 r.1.kind, u1, u2, u3, u4, u5, u6, q0, q1, q2, q3, q4, q5, q6] 39))
    have KB17 := Lib.hid (blk_al (.cells #[.int .i64 r.1.kind, u1, u2, u3, u4, u5, u6, q0, q1, q2, q3, q4, q5, q6] 39) KB16.out)
    have ob := only_cell ((w15.setCell ⟨b, 0, none⟩ (.int .i64 2)).alloc (.cells #[.int .i64 r.1.kind, u1, u2, u3, u4, u5, u6, q0, q1, q2, q3, q4, q5, q6] 39)) b 3 (.slice (some ⟨w15.heap.size, 0, none⟩) 2 2)
    have P18 := Lib.hid (P17.out.only ob (fun i e => .inl (by have := HGB.out; omega)))
    have O18 := Lib.hid (O17.out.trans ob (fun n f => .inl (.inr f)))
    have KB18 := Lib.hid (blkF3 KB17.out (.slice (some ⟨w15.heap.size, 0, none⟩) 2 2))
    have SL_18 := Lib.hid (slMv HFB.out ob SL_17.out)
    clear ob
    generalize (((w15.setCell ⟨b, 0, none⟩ (.int .i64 2)).alloc (.cells #[.int .i64 r.1.kind, u1, u2, u3, u4, u5, u6, q0, q1, q2, q3, q4, q5, q6] 39)).setCell ⟨b, 3, none⟩ (.slice (some ⟨w15.heap.size, 0, none⟩) 2 2)) = wz at *
    clear y0 y1 y2 y3 y4 z0 z1 z2 z3 z4 x0 x1 x2 x3 x4 m0 m1 m2 m3 m4 m5 m6 j0 j1 j2 j3 j4 j5 j6 k0 k1 k2 k3 k4 k5 k6 f0 f1 f2 f3 f4 g0 g1 g2 g3 g4 e0 e1 e2 e3 e4
    go_wp2_with fail
    go_end0
    exact ⟨rfl, ⟨_, _, _, _, _, KB18.out, _, _, _, rfl, strsN _ _, SL_18.out, sl_nil _ _ _⟩, P18.out, O18.out, (by have h1 := HNI.out; have h2 := IX.out; have h3 := IQ.out; have h4 := HFI.out; have h5 := HTI.out; show st.i ≤ q.2.i; omega), HPR.out.elim (fun k => .inl (show q.2.code ≠ 0 from by have e1 : r.2 = s2 := (by rw [HOF.out k]); have c1 : r.2.code ≠ 0 := (by rw [e1]; exact k); have e2 := HFO.out c1; have c2 : s3.code ≠ 0 := (by rw [e2]; exact c1); have e3 := HTO.out c2; have c3 : s4.code ≠ 0 := (by rw [e3]; exact c2); rw [HXO.out c3]; exact c3)) (fun k => .inr (show st.i < q.2.i by have h2 := IX.out; have h3 := IQ.out; have h4 := HFI.out; have h5 := HTI.out; omega))⟩)
set_option maxRecDepth 20000 in
set_option maxHeartbeats 16000000 in
theorem stat_defC (hG : PrM.Good T) (hF : OkF g tg c T F) (W : World) (st : St) (a : Int) (b d : Nat) (h : PS W g tg c T st) (hb : Blk W b #[.int .i64 0, .int .i64 a, .slice none 0 0, .slice none 0 0, .slice none 0 0] 42) (hgb : g < b) (h0 : st.code = 0) (hd : d ≤ 100) (hm : 100 * (101 - d) + 6 ≤ F + 1) (q0 : is T ⟨#[108, 111, 99, 97, 108]⟩ st = false) (q1 : is T ⟨#[105, 102]⟩ st = false) (q2 : is T ⟨#[119, 104, 105, 108, 101]⟩ st = false) (q3 : is T ⟨#[114, 101, 112, 101, 97, 116]⟩ st = false) (q4 : is T ⟨#[102, 111, 114]⟩ st = false) (q5 : is T ⟨#[98, 114, 101, 97, 107]⟩ st = false) (q6 : is T ⟨#[100, 111]⟩ st = false) (hk : ((fs T F).behind (.e 6 (place T st) 0 (nameT T st) 0 .nil .nil) (d : Int) (nameS T st)).1.kind ≠ 10) :
  Calls Try.prog 38 #[ptr g, ptr b, .int .i64 (d : Int)] W (SQ W g b tg c T st ((fs T (F + 1)).stat (.s 0 a [] .nil .nil) d st)) := by
 have e1 : (fs T (F + 1)).stat (.s 0 a [] .nil .nil) d st = statS T (fs T F) d a st := rfl
 rw [e1]
 unfold PrM.statS
 rw [q0, if_neg (show ¬ (false = true) from nofun), q1, if_neg (show ¬ (false = true) from nofun), q2, if_neg (show ¬ (false = true) from nofun), q3, if_neg (show ¬ (false = true) from nofun), q4, if_neg (show ¬ (false = true) from nofun), q5, if_neg (show ¬ (false = true) from nofun), q6, if_neg (show ¬ (false = true) from nofun)]
 clear e1
 have EX := Lib.hid (fun W1 st1 (h1 : PS W1 g tg c T st1) => hF.exp W1 st1 d h1 hd (by omega))
 have BL := Lib.hid (fun W1 st1 (h1 : PS W1 g tg c T st1) => hF.block W1 st1 d h1 hd (by omega))
 have BO := Lib.hid (fun W1 st1 (h1 : PS W1 g tg c T st1) => hF.body W1 st1 d h1 hd (by omega))
 have BH := Lib.hid (fun W1 st1 P x v0 v1 v2 v3 v4 v5 v6 (h1 : PS W1 g tg c T st1) hr hp => hF.behind W1 st1 P x v0 v1 v2 v3 v4 v5 v6 d h1 hr hp hd (by omega))
 have HOF := Lib.hid (fun x st1 => behind_off T F x (d : Int) (st := st1))
 have HXF := Lib.hid (fun st1 => exp_off T F (d : Int) (st := st1))
 have HPR := Lib.hid (show (nameS T st).code ≠ 0 ∨ st.i < (nameS T st).i by unfold nameS; rw [if_pos h0]; split; exact .inr (Nat.lt_succ_self _); exact .inl (by unfold PrM.fail; rw [if_pos h0]; exact (by decide : (14 : Int) ≠ 0)))
 have NG := Lib.hid (show ¬ Lo W g by have := h.blk.lt; unfold Lo; omega)
 have NA := Lib.hid (fun W1 (h1 : PS W1 g tg c T st) => name_any h1 hG)
 have HNI := Lib.hid (name_i (T := T) st)
 generalize nameT T st = nm at *
 generalize nameS T st = s2 at *
 have BH2 := Lib.hid (fun W1 (h1 : PS W1 g tg c T s2) => BH.out W1 s2 (Lo W) (.e 6 (place T st) 0 nm 0 .nil .nil) (.int .i64 6) (.int .i64 (place T st)) (.int .i64 0) (.string nm) (.int .i64 0) (.slice none 0 0) (.slice none 0 0) h1 (leaf_cells W1 (Lo W) 6 (place T st) 0 nm 0) NG.out)
 have HOF := Lib.hid (fun k => HOF.out (.e 6 (place T st) 0 nm 0 .nil .nil) s2 k)
 generalize (fs T F).behind (.e 6 (place T st) 0 nm 0 .nil .nil) (d : Int) s2 = r at *
 dsimp only
 generalize (fs T F).exp (d : Int) = ex at *
 generalize (fs T F).block (d : Int) = bl at *
 generalize (fs T F).body (d : Int) = bo at *
 have HG := Lib.hid h.blk.lt
 have HB := Lib.hid hb.lt
 have HGB := Lib.hid hgb
 have HGG := Lib.hid hG
 have HFG : Hid (∀ k, k = g → k < W.heap.size) := Lib.hid (fun k e => e ▸ HG.out)
 have HFB : Hid (∀ k, k = b → k < W.heap.size) := Lib.hid (fun k e => e ▸ HB.out)
 have P0 := Lib.hid h
 have O0 := Lib.hid (Only.refl (fun k => k = g ∨ k = b) W)
 have KB0 := Lib.hid hb
 have i0 : (0 : Int) ≤ (d : Int) := by omega
 have i1 : (d : Int) ≤ 100 := by omega
 have OQ0 := Lib.hid (fun W1 (h1 : PS W1 g tg c T st) => opt_any h1 HGG.out ⟨#[108, 111, 99, 97, 108]⟩)
 have OQ1 := Lib.hid (fun W1 (h1 : PS W1 g tg c T st) => opt_any h1 HGG.out ⟨#[105, 102]⟩)
 have OQ2 := Lib.hid (fun W1 (h1 : PS W1 g tg c T st) => opt_any h1 HGG.out ⟨#[119, 104, 105, 108, 101]⟩)
 have OQ3 := Lib.hid (fun W1 (h1 : PS W1 g tg c T st) => opt_any h1 HGG.out ⟨#[114, 101, 112, 101, 97, 116]⟩)
 have OQ4 := Lib.hid (fun W1 (h1 : PS W1 g tg c T st) => opt_any h1 HGG.out ⟨#[102, 111, 114]⟩)
 have OQ5 := Lib.hid (fun W1 (h1 : PS W1 g tg c T st) => opt_any h1 HGG.out ⟨#[98, 114, 101, 97, 107]⟩)
 have OQ6 := Lib.hid (fun W1 (h1 : PS W1 g tg c T st) => opt_any h1 HGG.out ⟨#[100, 111]⟩)
 unfold PrM.opt at OQ0 OQ1 OQ2 OQ3 OQ4 OQ5 OQ6
 rw [q0, if_neg (show ¬ (false = true) from nofun)] at OQ0
 rw [q1, if_neg (show ¬ (false = true) from nofun)] at OQ1
 rw [q2, if_neg (show ¬ (false = true) from nofun)] at OQ2
 rw [q3, if_neg (show ¬ (false = true) from nofun)] at OQ3
 rw [q4, if_neg (show ¬ (false = true) from nofun)] at OQ4
 rw [q5, if_neg (show ¬ (false = true) from nofun)] at OQ5
 rw [q6, if_neg (show ¬ (false = true) from nofun)] at OQ6
 clear h hb hgb hG hF hm hd h0 q0 q1 q2 q3 q4 q5 q6
 have hkb : (r.1.kind == 10) = false := by simpa using hk
 rw [if_neg (show ¬ (r.1.kind = 10 ∧ is T ⟨#[61]⟩ r.2 = false) from fun z => hk z.1), if_neg hk]
 clear hk BH
 obtain ⟨s3, es3⟩ : ∃ s3, r.2 = s3 := ⟨_, rfl⟩
 have HFI : Hid (s3.i = r.2.i) := Lib.hid (by rw [es3])
 have HFO : Hid (r.2.code ≠ 0 → s3 = r.2) := Lib.hid (fun _ => es3.symm)
 have RQ := Lib.hid es3
 rw [es3]
 clear es3
 have TQ := Lib.hid (fun W1 (h1 : PS W1 g tg c T s3) => take_any h1 HGG.out ⟨#[61]⟩)
 have HTI := Lib.hid (take_i2 (T := T) ⟨#[61]⟩ s3)
 have HTO := Lib.hid (fun z => take_off T (st := s3) z ⟨#[61]⟩)
 generalize PrM.take T ⟨#[61]⟩ s3 = s4 at *
 have EX5 := Lib.hid (fun W1 (h1 : PS W1 g tg c T s4) => EX.out W1 _ h1)
 have HXO := Lib.hid (fun z => HXF.out s4 z)
 generalize ex s4 = q at *
 try dsimp only
 go_enter Try.func38, Try.ntmps38
 go_wp2_with (first
  |(go_at_call 35; (with_reducible refine (OQ0.out _ P0.out).mono ?_); rintro e w1 ⟨rfl, p, o⟩; have P1 := Lib.hid p; have O1 := Lib.hid (O0.out.trans o (fun n f => .inl (.inl f))); have KB1 := Lib.hid (KB0.out.only o (by have := HGB.out; omega)); clear p o)
  |(go_at_call 35; (with_reducible refine (OQ1.out _ P1.out).mono ?_); rintro e w2 ⟨rfl, p, o⟩; have P2 := Lib.hid p; have O2 := Lib.hid (O1.out.trans o (fun n f => .inl (.inl f))); have KB2 := Lib.hid (KB1.out.only o (by have := HGB.out; omega)); clear p o)
  |(go_at_call 35; (with_reducible refine (OQ2.out _ P2.out).mono ?_); rintro e w3 ⟨rfl, p, o⟩; have P3 := Lib.hid p; have O3 := Lib.hid (O2.out.trans o (fun n f => .inl (.inl f))); have KB3 := Lib.hid (KB2.out.only o (by have := HGB.out; omega)); clear p o)
  |(go_at_call 35; (with_reducible refine (OQ3.out _ P3.out).mono ?_); rintro e w4 ⟨rfl, p, o⟩; have P4 := Lib.hid p; have O4 := Lib.hid (O3.out.trans o (fun n f => .inl (.inl f))); have KB4 := Lib.hid (KB3.out.only o (by have := HGB.out; omega)); clear p o)
  |(go_at_call 35; (with_reducible refine (OQ4.out _ P4.out).mono ?_); rintro e w5 ⟨rfl, p, o⟩; have P5 := Lib.hid p; have O5 := Lib.hid (O4.out.trans o (fun n f => .inl (.inl f))); have KB5 := Lib.hid (KB4.out.only o (by have := HGB.out; omega)); clear p o)
  |(go_at_call 35; (with_reducible refine (OQ5.out _ P5.out).mono ?_); rintro e w6 ⟨rfl, p, o⟩; have P6 := Lib.hid p; have O6 := Lib.hid (O5.out.trans o (fun n f => .inl (.inl f))); have KB6 := Lib.hid (KB5.out.only o (by have := HGB.out; omega)); clear p o)
  |(go_at_call 35; (with_reducible refine (OQ6.out _ P6.out).mono ?_); rintro e w7 ⟨rfl, p, o⟩; have P7 := Lib.hid p; have O7 := Lib.hid (O6.out.trans o (fun n f => .inl (.inl f))); have KB7 := Lib.hid (KB6.out.only o (by have := HGB.out; omega)); clear p o)
  |(go_at_call 34; (with_reducible refine (place_any P7.out).mono ?_); rintro e w8 ⟨rfl, sm⟩; have P8 := Lib.hid (P7.out.sm sm); have O8 := Lib.hid (O7.out.trans (Only.of_below (F := fun _ => False) (sm.below _)) (fun _ f => f.elim)); have KB8 := Lib.hid (KB7.out.sm sm); clear sm)
  |(go_at_call 49; (with_reducible refine (NA.out _ P8.out).mono ?_); rintro e w9 ⟨rfl, p, o⟩; have P9 := Lib.hid p; have O9 := Lib.hid (O8.out.trans o (fun n f => .inl (.inl f))); have KB9 := Lib.hid (KB8.out.only o (by have := HGB.out; omega)); clear p o)
  |(go_at_call 52; (with_reducible refine (BH2.out _ P9.out).mono ?_); rintro e w10 ⟨⟨u0, u1, u2, u3, u4, u5, u6, rfl, rd⟩, p, o, ii⟩; obtain rfl := kind_cells rd; have P10 := Lib.hid p; have O10 := Lib.hid (O9.out.trans o (fun n f => .inl (.inl f))); have KB10 := Lib.hid (KB9.out.only o (by have := HGB.out; omega)); have RX_10 := Lib.hid (wideO O9.out.size rd); have IX := Lib.hid ii; have NB := Lib.hid (Blk.new w10 Z7 39); clear rd ii; clear p o)
  |(refine wpList_store_row rfl 39 (.tmp 8) (.tmp 17) rfl w10.heap.size #[.int .i64 r.1.kind, u1, u2, u3, u4, u5, u6] rfl rfl 39 _ NB.out sizeE rfl (ones7 (Rd.one_cells _ _ RX_10.out)) ?_; obtain ⟨w11, hw, bb, K8_11, ss⟩ := box7 w10 #[.int .i64 r.1.kind, u1, u2, u3, u4, u5, u6] Z7; rw [← hw]; clear hw NB; have N8 := Lib.hid (show W.heap.size ≤ w10.heap.size from O10.out.size); have P11 := Lib.hid (P10.out.only (Only.of_below (F := fun _ => False) bb.out) (fun _ f => f.elim)); have O11 := Lib.hid (O10.out.trans (Only.of_below (F := fun _ => False) bb.out) (fun _ f => f.elim)); have KB11 := Lib.hid (KB10.out.below bb.out KB10.out.lt); have RX_11 := Lib.hid (clBel (Nat.le_refl _) bb.out RX_10.out); clear bb ss; obtain ⟨⟨k0, k1, k2, k3, k4, k5, k6⟩, -⟩ := K8_11.out.seven)
  |(go_at_call 51; (with_reducible refine (TQ.out _ (RQ.out ▸ P11.out)).mono ?_); rintro e w12 ⟨rfl, p, o⟩; have P12 := Lib.hid p; have O12 := Lib.hid (O11.out.trans o (fun n f => .inl (.inl f))); have KB12 := Lib.hid (KB11.out.only o (by have := HGB.out; omega)); have RX_12 := Lib.hid (clMv HFG.out o RX_11.out); have K8_12 := Lib.hid (K8_11.out.only o (by have := N8.out; have := HG.out; omega)); clear k0 k1 k2 k3 k4 k5 k6; obtain ⟨⟨k0, k1, k2, k3, k4, k5, k6⟩, -⟩ := K8_12.out.seven; clear p o))
 have mixed : Try.prog.follows .mixedOrders = true := by kernel_rfl
 have PD := Lib.hid (P12.out.sm (Sm.drewn w12))
 go_region_law (go_simp; go_at_call 37; (refine (EX5.out _ PD.out).mono ?_); rintro e w13 ⟨⟨q0, q1, q2, q3, q4, q5, q6, rfl, rd⟩, p, o, ii⟩; have o : Only (fun b => b = g) w12 w13 := ⟨o.os, o.tape, o.output, o.size, o.block⟩; have P13 := Lib.hid p; have O13 := Lib.hid (O12.out.trans o (fun n f => .inl (.inl f))); have KB13 := Lib.hid (KB12.out.only o (by have := HGB.out; omega)); have RX_13 := Lib.hid (clMv HFG.out o RX_12.out); have RQ_13 := Lib.hid (wideW (w1 := w12) O12.out.size rd); have IQ := Lib.hid ii; clear rd ii; have K8_13 := Lib.hid (K8_12.out.only o (by have := N8.out; have := HG.out; omega)); clear p o; obtain ⟨⟨j0, j1, j2, j3, j4, j5, j6⟩, -⟩ := K8_13.out.seven; have KD := Lib.hid (blk_al (.cells #[.int .i64 r.1.kind, u1, u2, u3, u4, u5, u6, q0, q1, q2, q3, q4, q5, q6] 39) KB13.out); obtain ⟨⟨z0, z1, z2, z3, z4⟩, f0, f1, f2, f3, f4⟩ := KD.out.five; obtain ⟨⟨y0, y1, y2, y3, y4⟩, g0, g1, g2, g3, g4⟩ := KB13.out.five; have KS := Lib.hid (blkF0 KB13.out (.int .i64 2)); have KSA := Lib.hid (blk_al (.cells #[.int .i64 r.1.kind, u1, u2, u3, u4, u5, u6, q0, q1, q2, q3, q4, q5, q6] 39) KS.out); obtain ⟨⟨x0, x1, x2, x3, x4⟩, e0, e1, e2, e3, e4⟩ := KSA.out.five; have ob := only_cell w13 b 0 (.int .i64 2); have K8S := Lib.hid (K8_13.out.only ob (by have := N8.out; have := HB.out; omega)); clear ob; obtain ⟨⟨m0, m1, m2, m3, m4, m5, m6⟩, -⟩ := K8S.out.seven)
 all_goals first
  |(have SL_14 := Lib.hid (slTwoE O13.out.size RX_13.out RQ_13.out)
    have P14 := Lib.hid (P13.out.alloc (.cells #[.int .i64 r.1.kind, u1, u2, u3, u4, u5, u6, q0, q1, q2, q3, q4, q5, q6] 39))
    have O14 := Lib.hid (O13.out.alloc (.cells #[.int .i64 r.1.kind, u1, u2, u3, u4, u5, u6, q0, q1, q2, q3, q4, q5, q6] 39))
    have KB14 := Lib.hid (blk_al (.cells #[.int .i64 r.1.kind, u1, u2, u3, u4, u5, u6, q0, q1, q2, q3, q4, q5, q6] 39) KB13.out)
    have ob := only_cell (w13.alloc (.cells #[.int .i64 r.1.kind, u1, u2, u3, u4, u5, u6, q0, q1, q2, q3, q4, q5, q6] 39)) b 0 (.int .i64 2)
    have P15 := Lib.hid (P14.out.only ob (fun i e => .inl (by have := HGB.out; omega)))
    have O15 := Lib.hid (O14.out.trans ob (fun n f => .inl (.inr f)))
    have KB15 := Lib.hid (blkF0 KB14.out (.int .i64 2))
    have SL_15 := Lib.hid (slMv HFB.out ob SL_14.out)
    clear ob
    have ob := only_cell ((w13.alloc (.cells #[.int .i64 r.1.kind, u1, u2, u3, u4, u5, u6, q0, q1, q2, q3, q4, q5, q6] 39)).setCell ⟨b, 0, none⟩ (.int .i64 2)) b 3 (.slice (some ⟨w13.heap.size, 0, none⟩) 2 2)
    have P16 := Lib.hid (P15.out.only ob (fun i e => .inl (by have := HGB.out; omega)))
    have O16 := Lib.hid (O15.out.trans ob (fun n f => .inl (.inr f)))
    have KB16 := Lib.hid (blkF3 KB15.out (.slice (some ⟨w13.heap.size, 0, none⟩) 2 2))
    have SL_16 := Lib.hid (slMv HFB.out ob SL_15.out)
    clear ob
    generalize (((w13.alloc (.cells #[.int .i64 r.1.kind, u1, u2, u3, u4, u5, u6, q0, q1, q2, q3, q4, q5, q6] 39)).setCell ⟨b, 0, none⟩ (.int .i64 2)).setCell ⟨b, 3, none⟩ (.slice (some ⟨w13.heap.size, 0, none⟩) 2 2)) = wz at *
    clear y0 y1 y2 y3 y4 z0 z1 z2 z3 z4 x0 x1 x2 x3 x4 m0 m1 m2 m3 m4 m5 m6 j0 j1 j2 j3 j4 j5 j6 k0 k1 k2 k3 k4 k5 k6 f0 f1 f2 f3 f4 g0 g1 g2 g3 g4 e0 e1 e2 e3 e4
    go_wp2_with fail
    go_end0
    exact ⟨rfl, ⟨_, _, _, _, _, KB16.out, _, _, _, rfl, strsN _ _, SL_16.out, sl_nil _ _ _⟩, P16.out, O16.out, (by have h1 := HNI.out; have h2 := IX.out; have h3 := IQ.out; have h4 := HFI.out; have h5 := HTI.out; show st.i ≤ q.2.i; omega), HPR.out.elim (fun k => .inl (show q.2.code ≠ 0 from by have e1 : r.2 = s2 := (by rw [HOF.out k]); have c1 : r.2.code ≠ 0 := (by rw [e1]; exact k); have e2 := HFO.out c1; have c2 : s3.code ≠ 0 := (by rw [e2]; exact c1); have e3 := HTO.out c2; have c3 : s4.code ≠ 0 := (by rw [e3]; exact c2); rw [HXO.out c3]; exact c3)) (fun k => .inr (show st.i < q.2.i by have h2 := IX.out; have h3 := IQ.out; have h4 := HFI.out; have h5 := HTI.out; omega))⟩)
  |(have ob := only_cell w13 b 0 (.int .i64 2)
    have P14 := Lib.hid (P13.out.only ob (fun i e => .inl (by have := HGB.out; omega)))
    have O14 := Lib.hid (O13.out.trans ob (fun n f => .inl (.inr f)))
    have KB14 := Lib.hid (blkF0 KB13.out (.int .i64 2))
    have RX_14 := Lib.hid (clMv HFB.out ob RX_13.out)
    have RQ_14 := Lib.hid (clMv HFB.out ob RQ_13.out)
    clear ob
    have k := slTwoE O14.out.size RX_14.out RQ_14.out
    rw [show (w13.setCell ⟨b, 0, none⟩ (.int .i64 2)).heap.size = w13.heap.size from by simp [World.setCell]] at k
    have SL_15 := Lib.hid k
    clear k
    have P15 := Lib.hid (P14.out.alloc (.cells #[.int .i64 r.1.kind, u1, u2, u3, u4, u5, u6, q0, q1, q2, q3, q4, q5, q6] 39))
    have O15 := Lib.hid (O14.out.alloc (.cells #[.int .i64 r.1.kind, u1, u2, u3, u4, u5, u6, q0, q1, q2, q3, q4, q5, q6] 39))
    have KB15 := Lib.hid (blk_al (.cells #[.int .i64 r.1.kind, u1, u2, u3, u4, u5, u6, q0, q1, q2, q3, q4, q5, q6] 39) KB14.out)
    have ob := only_cell ((w13.setCell ⟨b, 0, none⟩ (.int .i64 2)).alloc (.cells #[.int .i64 r.1.kind, u1, u2, u3, u4, u5, u6, q0, q1, q2, q3, q4, q5, q6] 39)) b 3 (.slice (some ⟨w13.heap.size, 0, none⟩) 2 2)
    have P16 := Lib.hid (P15.out.only ob (fun i e => .inl (by have := HGB.out; omega)))
    have O16 := Lib.hid (O15.out.trans ob (fun n f => .inl (.inr f)))
    have KB16 := Lib.hid (blkF3 KB15.out (.slice (some ⟨w13.heap.size, 0, none⟩) 2 2))
    have SL_16 := Lib.hid (slMv HFB.out ob SL_15.out)
    clear ob
    generalize (((w13.setCell ⟨b, 0, none⟩ (.int .i64 2)).alloc (.cells #[.int .i64 r.1.kind, u1, u2, u3, u4, u5, u6, q0, q1, q2, q3, q4, q5, q6] 39)).setCell ⟨b, 3, none⟩ (.slice (some ⟨w13.heap.size, 0, none⟩) 2 2)) = wz at *
    clear y0 y1 y2 y3 y4 z0 z1 z2 z3 z4 x0 x1 x2 x3 x4 m0 m1 m2 m3 m4 m5 m6 j0 j1 j2 j3 j4 j5 j6 k0 k1 k2 k3 k4 k5 k6 f0 f1 f2 f3 f4 g0 g1 g2 g3 g4 e0 e1 e2 e3 e4
    go_wp2_with fail
    go_end0
    exact ⟨rfl, ⟨_, _, _, _, _, KB16.out, _, _, _, rfl, strsN _ _, SL_16.out, sl_nil _ _ _⟩, P16.out, O16.out, (by have h1 := HNI.out; have h2 := IX.out; have h3 := IQ.out; have h4 := HFI.out; have h5 := HTI.out; show st.i ≤ q.2.i; omega), HPR.out.elim (fun k => .inl (show q.2.code ≠ 0 from by have e1 : r.2 = s2 := (by rw [HOF.out k]); have c1 : r.2.code ≠ 0 := (by rw [e1]; exact k); have e2 := HFO.out c1; have c2 : s3.code ≠ 0 := (by rw [e2]; exact c1); have e3 := HTO.out c2; have c3 : s4.code ≠ 0 := (by rw [e3]; exact c2); rw [HXO.out c3]; exact c3)) (fun k => .inr (show st.i < q.2.i by have h2 := IX.out; have h3 := IQ.out; have h4 := HFI.out; have h5 := HTI.out; omega))⟩)
end
end Go.Proofs.Yteakhlnnepjhpaa
