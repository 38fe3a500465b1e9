/- The document's parser: statements: if (printed by genpr11.py). -/
import Derived.Test.YteakhlnnepjhpaaKq
namespace Go.Proofs.Yteakhlnnepjhpaa
open Go.RowKit PrM
set_option linter.unusedVariables false
set_option linter.unusedSimpArgs false
section
variable {F g tg c : Nat} {T : List LxM.T}
set_option maxRecDepth 20000 in
set_option maxHeartbeats 16000000 in
theorem stat_if (hG : PrM.Good T) (hF : OkF g tg c T F) (W : World) (st : St) (a : Int) (b d : Nat) (h : PS W g tg c T st) (hb : Blk W b #[.int .i64 0, .int .i64 a, .slice none 0 0, .slice none 0 0, .slice none 0 0] 42) (hgb : g < b) (h0 : st.code = 0) (hd : d ≤ 100) (hm : 100 * (101 - d) + 6 ≤ F + 1) (q0 : is T ⟨#[108, 111, 99, 97, 108]⟩ st = false) (q1 : is T ⟨#[105, 102]⟩ st = true) :
  Calls Try.prog 38 #[ptr g, ptr b, .int .i64 (d : Int)] W (SQ W g b tg c T st ((fs T (F + 1)).stat (.s 0 a [] .nil .nil) d st)) := by
 have e1 : (fs T (F + 1)).stat (.s 0 a [] .nil .nil) d st = statS T (fs T F) d a st := rfl
 rw [e1]
 unfold PrM.statS
 rw [q0, if_neg (show ¬ (false = true) from nofun), q1, if_pos rfl]
 clear e1
 have EX := Lib.hid (fun W1 st1 (h1 : PS W1 g tg c T st1) => hF.exp W1 st1 d h1 hd (by omega))
 have BL := Lib.hid (fun W1 st1 (h1 : PS W1 g tg c T st1) => hF.block W1 st1 d h1 hd (by omega))
 have BO := Lib.hid (fun W1 st1 (h1 : PS W1 g tg c T st1) => hF.body W1 st1 d h1 hd (by omega))
 have BH := Lib.hid (fun W1 st1 P x v0 v1 v2 v3 v4 v5 v6 (h1 : PS W1 g tg c T st1) hr hp => hF.behind W1 st1 P x v0 v1 v2 v3 v4 v5 v6 d h1 hr hp hd (by omega))
 have HG := Lib.hid h.blk.lt
 have HB := Lib.hid hb.lt
 have HGB := Lib.hid hgb
 have HGG := Lib.hid hG
 have HFG : Hid (∀ k, k = g → k < W.heap.size) := Lib.hid (fun k e => e ▸ HG.out)
 have HFB : Hid (∀ k, k = b → k < W.heap.size) := Lib.hid (fun k e => e ▸ HB.out)
 have P0 := Lib.hid h
 have O0 := Lib.hid (Only.refl (fun k => k = g ∨ k = b) W)
 have KB0 := Lib.hid hb
 have i0 : (0 : Int) ≤ (d : Int) := by omega
 have i1 : (d : Int) ≤ 100 := by omega
 have OQ0 := Lib.hid (fun W1 (h1 : PS W1 g tg c T st) => opt_any h1 HGG.out ⟨#[108, 111, 99, 97, 108]⟩)
 have OQ1 := Lib.hid (fun W1 (h1 : PS W1 g tg c T st) => opt_any h1 HGG.out ⟨#[105, 102]⟩)
 unfold PrM.opt at OQ0 OQ1
 rw [q0, if_neg (show ¬ (false = true) from nofun)] at OQ0
 rw [q1, if_pos rfl] at OQ1
 clear hb hgb hG hF hm hd q0 q1
 obtain ⟨R, eR⟩ : ∃ R, ifL T (fs T F) (d : Int) T.length .nil .nil (up st) = R := ⟨_, rfl⟩
 rw [eR]
 have HR := Lib.hid eR
 have HU := Lib.hid (show (up st).i = st.i + 1 from rfl)
 have HCU := Lib.hid (show (up st).code = 0 from h0)
 clear h h0 eR
 dsimp only
 obtain ⟨Z, eZ⟩ : ∃ Z, (if is T ⟨#[101, 108, 115, 101]⟩ R.2.2 = true then (X.s 4 a [] R.1 (R.2.1.snoc (.blk ((fs T F).block (d : Int) (up R.2.2)).1)) , PrM.take T ⟨#[101, 110, 100]⟩ ((fs T F).block (d : Int) (up R.2.2)).2) else (X.s 4 a [] R.1 R.2.1, PrM.take T ⟨#[101, 110, 100]⟩ R.2.2)) = Z := ⟨_, rfl⟩
 rw [eZ]
 have HZ := Lib.hid eZ
 clear eZ
 go_enter Try.func38, Try.ntmps38
 go_wp2_with (first
  |(go_at_call 35; (with_reducible refine (OQ0.out _ P0.out).mono ?_); rintro e w1 ⟨rfl, p, o⟩; have P1 := Lib.hid p; have O1 := Lib.hid (O0.out.trans o (fun n f => .inl (.inl f))); have KB1 := Lib.hid (KB0.out.only o (by have := HGB.out; omega)); clear p o)
  |(go_at_call 35; (with_reducible refine (OQ1.out _ P1.out).mono ?_); rintro e w2 ⟨rfl, p, o⟩; have P2 := Lib.hid p; have O2 := Lib.hid (O1.out.trans o (fun n f => .inl (.inl f))); have KB2 := Lib.hid (KB1.out.only o (by have := HGB.out; omega)); clear p o; obtain ⟨⟨z0_2, z1_2, z2_2, z3_2, z4_2⟩, f0_2, f1_2, f2_2, f3_2, f4_2⟩ := KB2.out.five; have ob := only_cell w2 b 0 (.int .i64 4); have P3 := Lib.hid (P2.out.only ob (fun i e => .inl (by have := HGB.out; omega))); have O3 := Lib.hid (O2.out.trans ob (fun n f => .inl (.inr f))); have KB3 := Lib.hid (blkF0 KB2.out (.int .i64 4)); clear ob))
 try simp only [Act.put]
 go_loopw [] (fun wr => ∃ (k : Nat) (s1 : St) (l bk : X) (vL vB : Value) (ys zs : List Value), PS wr g tg c T s1 ∧ Only (fun k => k = g ∨ k = b) W wr ∧ Blk wr b #[.int .i64 4, .int .i64 a, .slice none 0 0, vL, vB] 42 ∧ OwnX 39 7 W.heap.size (QV W vB) wr vL l ys ∧ OwnX 23 1 W.heap.size (QV W vL) wr vB bk zs ∧ (∀ k, vL.ownBlock = some k → vB.ownBlock ≠ some k) ∧ ifL T (fs T F) (d : Int) k l bk s1 = R ∧ T.length ≤ k + s1.i ∧ (up st).i ≤ s1.i ∧ l.len ≤ s1.i ∧ bk.len ≤ s1.i) (fun wr => mB T.length g wr)
 case atStart => exact ⟨T.length, _, .nil, .nil, _, _, [], [], P3.out, O3.out, KB3.out, OwnX.nil, OwnX.nil, (fun _ e => nomatch e), HR.out, Nat.le_add_right _ _, Nat.le_refl _, Nat.zero_le _, Nat.zero_le _⟩
 case round =>
  obtain ⟨k, s1, l, bk, vL, vB, ys, zs, p0, ow, kb, sl, sb, nd, hM, hk, hi, hl, hbl⟩ := hrel
  clear P0 O0 KB0 P1 O1 KB1 P2 O2 KB2 P3 O3 KB3 HR
  obtain ⟨A, cA, rfl⟩ := bySlice sl
  obtain ⟨B, cB, rfl⟩ := bySlice sb
  have P50 := Lib.hid p0
  have O50 := Lib.hid ow
  have KB50 := Lib.hid kb
  have SL_50 := Lib.hid sl
  have SB_50 := Lib.hid sb
  have ND := Lib.hid nd
  have MB := Lib.hid (p0.mB (N := T.length))
  have inb := P50.out.inb
  have sma := P50.out.small
  obtain ⟨k, rfl⟩ : ∃ q, k = q + 1 := ⟨k - 1, by omega⟩
  have EM := hM
  unfold PrM.ifL at EM
  have L3 : l.len ≤ 100000 := by omega
  have B3 : bk.len ≤ 100000 := by omega
  have HL3 := Lib.hid L3
  have HB3 := Lib.hid B3
  have HI := Lib.hid hi
  have HK := Lib.hid hk
  have HL := Lib.hid hl
  have HBL := Lib.hid hbl
  have HINB := Lib.hid inb
  clear p0 ow kb sl sb nd hM hk hi hl hbl inb sma L3 B3
  have EX1 := Lib.hid (fun W1 (h1 : PS W1 g tg c T s1) => EX.out W1 _ h1)
  generalize (fs T F).exp (d : Int) s1 = r at *
  dsimp only at EM
  have TT := Lib.hid (fun W1 (h1 : PS W1 g tg c T r.2) => take_any h1 HGG.out ⟨#[116, 104, 101, 110]⟩)
  have HTT := Lib.hid (take_i2 (T := T) ⟨#[116, 104, 101, 110]⟩ r.2)
  generalize PrM.take T ⟨#[116, 104, 101, 110]⟩ r.2 = s2 at *
  have BL1 := Lib.hid (fun W1 (h1 : PS W1 g tg c T s2) => BL.out W1 _ h1)
  generalize (fs T F).block (d : Int) s2 = q at *
  have OC := Lib.hid (fun W1 (h1 : PS W1 g tg c T q.2) => opt_any h1 HGG.out ⟨#[101, 108, 115, 101, 105, 102]⟩)
  unfold PrM.opt at OC
  have EM := Lib.hid EM
  go_wp2_with fail
  refine wp_cut13 102 (fun w' => ∃ (q6 c6 : Nat) (us : List Value), PS w' g tg c T r.2 ∧ Only (fun k => k = g ∨ k = b) W w' ∧ Blk w' b #[.int .i64 4, .int .i64 a, .slice none 0 0, (.slice (some ⟨q6, 0, none⟩) (l.len + 1) c6), .slice B bk.len cB] 42 ∧ OwnX 39 7 W.heap.size (QV W (.slice B bk.len cB)) w' (.slice (some ⟨q6, 0, none⟩) (l.len + 1) c6) (X.snoc l r.1) us ∧ OwnX 23 1 W.heap.size (QV W (.slice (some ⟨q6, 0, none⟩) (l.len + 1) c6)) w' (.slice B bk.len cB) bk zs ∧ (∀ k, ((.slice (some ⟨q6, 0, none⟩) (l.len + 1) c6) : Value).ownBlock = some k → ((.slice B bk.len cB) : Value).ownBlock ≠ some k) ∧ s1.i ≤ r.2.i) ?_ ?_
  ·intro Qp hQp
   simp only [Act.put, List.setIfInBounds_toArray, List.set_cons_zero, List.set_cons_succ, Nat.reduceAdd] at hQp
   have HQP := Lib.hid hQp
   clear hQp
   have mixed : Try.prog.follows .mixedOrders = true := by kernel_rfl
   have PA := Lib.hid (P50.out.sm (Sm.drewn wr))
   have PB := Lib.hid ((P50.out.alloc (.cells #[.int .i64 0, .int .i64 0, .int .i64 0, .string ⟨#[]⟩, .int .i64 0, .slice none 0 0, .slice none 0 0] 39)).sm (Sm.drewn _))
   obtain ⟨⟨z0, z1, z2, z3, z4⟩, -⟩ := KB50.out.five
   have za3 := keep_al (.cells #[.int .i64 0, .int .i64 0, .int .i64 0, .string ⟨#[]⟩, .int .i64 0, .slice none 0 0, .slice none 0 0] 39) z3
   have HK7 := Lib.hid (show ys.length = l.len * 7 from SL_50.out.row.1)
   have f1 : (0 : Int) ≤ (l.len : Int) := by omega
   have f2 : (l.len : Int) < (l.len : Int) + 1 := by omega
   go_region_law (first | (refine step_append_exp rfl (.tmp 105) (.tmp 110) rfl W.heap.size ((.slice A l.len cA)) (l.len) (ys) ?_ ?_ (w51.heap.size) ?_ (.int .i64 0) (.int .i64 0) (.int .i64 0) (.string ⟨#[]⟩) (.int .i64 0) (.slice none 0 0) (.slice none 0 0) ?_ ?_ ?_ ?_ ?_; rfl; exact (byBel (Nat.le_refl _) (al_below w51 (.cells #[.int .i64 0, .int .i64 0, .int .i64 0, .string ⟨#[]⟩, .int .i64 0, .slice none 0 0, .slice none 0 0] 39)) SL_51.out).row; rfl; exact Blk.new w51 #[.int .i64 0, .int .i64 0, .int .i64 0, .string ⟨#[]⟩, .int .i64 0, .slice none 0 0, .slice none 0 0] 39; (intro u hu; simp at hu; rcases hu with rfl | rfl | rfl | rfl | rfl | rfl | rfl <;> rfl); exact Nat.le_trans HL3.out (by decide); exact Nat.le_trans O51.out.size (Nat.le_of_lt (al_lt w51 _)); intro v6 w6 own6 g6 l6; obtain ⟨q6, c6, rfl, hq6⟩ := own_pos own6; have Px := Lib.hid (P51.out.alloc (.cells #[.int .i64 0, .int .i64 0, .int .i64 0, .string ⟨#[]⟩, .int .i64 0, .slice none 0 0, .slice none 0 0] 39)); have Ox := Lib.hid (O51.out.alloc (.cells #[.int .i64 0, .int .i64 0, .int .i64 0, .string ⟨#[]⟩, .int .i64 0, .slice none 0 0, .slice none 0 0] 39)); have KBx := Lib.hid (blk_al (.cells #[.int .i64 0, .int .i64 0, .int .i64 0, .string ⟨#[]⟩, .int .i64 0, .slice none 0 0, .slice none 0 0] 39) KB51.out); have REx := Lib.hid (mv_below (al_below w51 (.cells #[.int .i64 0, .int .i64 0, .int .i64 0, .string ⟨#[]⟩, .int .i64 0, .slice none 0 0, .slice none 0 0] 39)) RE_51.out); have SL_x := Lib.hid (byBel (Nat.le_refl _) (al_below w51 (.cells #[.int .i64 0, .int .i64 0, .int .i64 0, .string ⟨#[]⟩, .int .i64 0, .slice none 0 0, .slice none 0 0] 39)) SL_51.out); have SB_x := Lib.hid (byBel (Nat.le_refl _) (al_below w51 (.cells #[.int .i64 0, .int .i64 0, .int .i64 0, .string ⟨#[]⟩, .int .i64 0, .slice none 0 0, .slice none 0 0] 39)) SB_51.out); have OG := Lib.hid (grown_only g6); have L6 := Lib.hid l6; have HQ6 := Lib.hid hq6; have BQ := Lib.hid (show b ≠ q6 by have := HB.out; omega); have GQ := Lib.hid (show g < q6 by have := HG.out; omega); have hown := Lib.hid (fun k (e : ((.slice A l.len cA) : Value).ownBlock = some k) => (SL_x.out.row.lt k e).1); have P6 := Lib.hid (Px.out.only OG.out (fun i e => .inl (by have := hown.out i e; have := HG.out; omega))); have O6 := Lib.hid (Ox.out.trans OG.out (fun i e => .inr (hown.out i e))); have KB6 := Lib.hid (KBx.out.only OG.out (fun e => by have := hown.out _ e; have := HB.out; omega)); obtain ⟨⟨s0, s1_, s2_, s3_, s4_, s5_, s6_⟩, h0, h1, h2, h3, h4, h5, h6⟩ := own_seven (k1 := l.len * 7 + 1) (k2 := l.len * 7 + 2) (k3 := l.len * 7 + 3) (k4 := l.len * 7 + 4) (k5 := l.len * 7 + 5) (k6 := l.len * 7 + 6) own6 HK7.out rfl rfl rfl rfl rfl rfl; have PU := Lib.hid (own_put7 (k1 := l.len * 7 + 1) (k2 := l.len * 7 + 2) (k3 := l.len * 7 + 3) (k4 := l.len * 7 + 4) (k5 := l.len * 7 + 5) (k6 := l.len * 7 + 6) own6 HK7.out rfl rfl rfl rfl rfl rfl (.int .i64 pk) (.int .i64 pa) (.int .i64 pn) (.string ps) (.int .i64 po) (.slice pA pm pc) (.slice pB pi pd)); have KB7 := Lib.hid (KB6.out.only PU.out.2.out BQ.out); obtain ⟨⟨r0, r1, r2, r3, r4⟩, f0, f1, f2, f3, f4⟩ := KB7.out.five; obtain ⟨⟨v0_, v1_, v2_, v3_, v4_⟩, fv0, fv1, fv2, fv3, fv4⟩ := KB6.out.five; have KBs := Lib.hid (blkF3 KB6.out (.slice (some ⟨q6, 0, none⟩) (l.len + 1) c6)); have obs := Lib.hid (only_cell w6 b 3 (.slice (some ⟨q6, 0, none⟩) (l.len + 1) c6)); have own6b := Lib.hid (ownsRow_only own6 obs.out (fun k e => by have := HB.out; omega)); obtain ⟨⟨sb0, sb1, sb2, sb3, sb4, sb5, sb6⟩, hb0, hb1, hb2, hb3, hb4, hb5, hb6⟩ := own_seven (k1 := l.len * 7 + 1) (k2 := l.len * 7 + 2) (k3 := l.len * 7 + 3) (k4 := l.len * 7 + 4) (k5 := l.len * 7 + 5) (k6 := l.len * 7 + 6) own6b.out HK7.out rfl rfl rfl rfl rfl rfl; have PUb := Lib.hid (own_put7 (k1 := l.len * 7 + 1) (k2 := l.len * 7 + 2) (k3 := l.len * 7 + 3) (k4 := l.len * 7 + 4) (k5 := l.len * 7 + 5) (k6 := l.len * 7 + 6) own6b.out HK7.out rfl rfl rfl rfl rfl rfl (.int .i64 pk) (.int .i64 pa) (.int .i64 pn) (.string ps) (.int .i64 po) (.slice pA pm pc) (.slice pB pi pd)); clear own6 g6 l6 hq6) | (refine step_append_exp rfl (.tmp 105) (.tmp 110) rfl W.heap.size ((.slice A l.len cA)) (l.len) (ys) ?_ ?_ (wr.heap.size) ?_ (.int .i64 0) (.int .i64 0) (.int .i64 0) (.string ⟨#[]⟩) (.int .i64 0) (.slice none 0 0) (.slice none 0 0) ?_ ?_ ?_ ?_ ?_; rfl; exact SL_51.out.row; rfl; exact KZ9.out; (intro u hu; simp at hu; rcases hu with rfl | rfl | rfl | rfl | rfl | rfl | rfl <;> rfl); exact Nat.le_trans HL3.out (by decide); exact O51.out.size; intro v6 w6 own6 g6 l6; obtain ⟨q6, c6, rfl, hq6⟩ := own_pos own6; have Px := P51; have Ox := O51; have KBx := KB51; have REx := RE_51; have SL_x := SL_51; have SB_x := SB_51; have OG := Lib.hid (grown_only g6); have L6 := Lib.hid l6; have HQ6 := Lib.hid hq6; have BQ := Lib.hid (show b ≠ q6 by have := HB.out; omega); have GQ := Lib.hid (show g < q6 by have := HG.out; omega); have hown := Lib.hid (fun k (e : ((.slice A l.len cA) : Value).ownBlock = some k) => (SL_x.out.row.lt k e).1); have P6 := Lib.hid (Px.out.only OG.out (fun i e => .inl (by have := hown.out i e; have := HG.out; omega))); have O6 := Lib.hid (Ox.out.trans OG.out (fun i e => .inr (hown.out i e))); have KB6 := Lib.hid (KBx.out.only OG.out (fun e => by have := hown.out _ e; have := HB.out; omega)); obtain ⟨⟨s0, s1_, s2_, s3_, s4_, s5_, s6_⟩, h0, h1, h2, h3, h4, h5, h6⟩ := own_seven (k1 := l.len * 7 + 1) (k2 := l.len * 7 + 2) (k3 := l.len * 7 + 3) (k4 := l.len * 7 + 4) (k5 := l.len * 7 + 5) (k6 := l.len * 7 + 6) own6 HK7.out rfl rfl rfl rfl rfl rfl; have PU := Lib.hid (own_put7 (k1 := l.len * 7 + 1) (k2 := l.len * 7 + 2) (k3 := l.len * 7 + 3) (k4 := l.len * 7 + 4) (k5 := l.len * 7 + 5) (k6 := l.len * 7 + 6) own6 HK7.out rfl rfl rfl rfl rfl rfl (.int .i64 pk) (.int .i64 pa) (.int .i64 pn) (.string ps) (.int .i64 po) (.slice pA pm pc) (.slice pB pi pd)); have KB7 := Lib.hid (KB6.out.only PU.out.2.out BQ.out); obtain ⟨⟨r0, r1, r2, r3, r4⟩, f0, f1, f2, f3, f4⟩ := KB7.out.five; obtain ⟨⟨v0_, v1_, v2_, v3_, v4_⟩, fv0, fv1, fv2, fv3, fv4⟩ := KB6.out.five; have KBs := Lib.hid (blkF3 KB6.out (.slice (some ⟨q6, 0, none⟩) (l.len + 1) c6)); have obs := Lib.hid (only_cell w6 b 3 (.slice (some ⟨q6, 0, none⟩) (l.len + 1) c6)); have own6b := Lib.hid (ownsRow_only own6 obs.out (fun k e => by have := HB.out; omega)); obtain ⟨⟨sb0, sb1, sb2, sb3, sb4, sb5, sb6⟩, hb0, hb1, hb2, hb3, hb4, hb5, hb6⟩ := own_seven (k1 := l.len * 7 + 1) (k2 := l.len * 7 + 2) (k3 := l.len * 7 + 3) (k4 := l.len * 7 + 4) (k5 := l.len * 7 + 5) (k6 := l.len * 7 + 6) own6b.out HK7.out rfl rfl rfl rfl rfl rfl; have PUb := Lib.hid (own_put7 (k1 := l.len * 7 + 1) (k2 := l.len * 7 + 2) (k3 := l.len * 7 + 3) (k4 := l.len * 7 + 4) (k5 := l.len * 7 + 5) (k6 := l.len * 7 + 6) own6b.out HK7.out rfl rfl rfl rfl rfl rfl (.int .i64 pk) (.int .i64 pa) (.int .i64 pn) (.string ps) (.int .i64 po) (.slice pA pm pc) (.slice pB pi pd)); clear own6 g6 l6 hq6) | (go_simp; go_at_call 37; refine (EX1.out _ PA.out).mono ?_; rintro e w51 ⟨⟨p0, p1, p2, p3, p4, p5, p6, rfl, rd⟩, p, o, ii⟩; obtain ⟨pk, pa, pn, ps, po, pA, pm, pc, pB, pi, pd, rfl, rfl, rfl, rfl, rfl, rfl, rfl⟩ := cells_shape rd; have o : Only (fun b => b = g) wr w51 := ⟨o.os, o.tape, o.output, o.size, o.block⟩; have P51 := Lib.hid p; have O51 := Lib.hid (O50.out.trans o (fun n f => .inl (.inl f))); have KB51 := Lib.hid (KB50.out.only o (by have := HGB.out; omega)); have SL_51 := Lib.hid (byMv HFG.out o SL_50.out); have SB_51 := Lib.hid (byMv HFG.out o SB_50.out); have RE_51 := Lib.hid (OwnX.elem (w := w51) (w1 := wr) SL_50.out (qvAll SB_50.out O50.out.size) rd); have IRX := Lib.hid ii; clear p o ii rd; obtain ⟨⟨y0, y1, y2, y3, y4⟩, -⟩ := KB51.out.five; have ya3 := keep_al (.cells #[.int .i64 0, .int .i64 0, .int .i64 0, .string ⟨#[]⟩, .int .i64 0, .slice none 0 0, .slice none 0 0] 39) y3) | (go_simp; go_at_call 37; refine (EX1.out _ PB.out).mono ?_; rintro e w51 ⟨⟨p0, p1, p2, p3, p4, p5, p6, rfl, rd⟩, p, o, ii⟩; obtain ⟨pk, pa, pn, ps, po, pA, pm, pc, pB, pi, pd, rfl, rfl, rfl, rfl, rfl, rfl, rfl⟩ := cells_shape rd; have o : Only (fun b => b = g) (wr.alloc (.cells #[.int .i64 0, .int .i64 0, .int .i64 0, .string ⟨#[]⟩, .int .i64 0, .slice none 0 0, .slice none 0 0] 39)) w51 := ⟨o.os, o.tape, o.output, o.size, o.block⟩; have Oz := Lib.hid (O50.out.alloc (.cells #[.int .i64 0, .int .i64 0, .int .i64 0, .string ⟨#[]⟩, .int .i64 0, .slice none 0 0, .slice none 0 0] 39)); have KBz := Lib.hid (blk_al (.cells #[.int .i64 0, .int .i64 0, .int .i64 0, .string ⟨#[]⟩, .int .i64 0, .slice none 0 0, .slice none 0 0] 39) KB50.out); have KZ := Lib.hid (Blk.new wr #[.int .i64 0, .int .i64 0, .int .i64 0, .string ⟨#[]⟩, .int .i64 0, .slice none 0 0, .slice none 0 0] 39); have SL_z := Lib.hid (byBel (Nat.le_refl _) (al_below wr (.cells #[.int .i64 0, .int .i64 0, .int .i64 0, .string ⟨#[]⟩, .int .i64 0, .slice none 0 0, .slice none 0 0] 39)) SL_50.out); have SB_z := Lib.hid (byBel (Nat.le_refl _) (al_below wr (.cells #[.int .i64 0, .int .i64 0, .int .i64 0, .string ⟨#[]⟩, .int .i64 0, .slice none 0 0, .slice none 0 0] 39)) SB_50.out); have P51 := Lib.hid p; have O51 := Lib.hid (Oz.out.trans o (fun n f => .inl (.inl f))); have KB51 := Lib.hid (KBz.out.only o (by have := HGB.out; omega)); have SL_51 := Lib.hid (byMv HFG.out o SL_z.out); have SB_51 := Lib.hid (byMv HFG.out o SB_z.out); have RE_51 := Lib.hid (OwnX.elem (w := w51) (w1 := (wr.alloc (.cells #[.int .i64 0, .int .i64 0, .int .i64 0, .string ⟨#[]⟩, .int .i64 0, .slice none 0 0, .slice none 0 0] 39))) SL_z.out (qvAll SB_z.out Oz.out.size) rd); have IRX := Lib.hid ii; have N9 := Lib.hid (show W.heap.size ≤ wr.heap.size from O50.out.size); have KZ9 := Lib.hid (KZ.out.only o (by have := HG.out; have := N9.out; omega)); clear p o ii rd; obtain ⟨⟨y0, y1, y2, y3, y4⟩, -⟩ := KB51.out.five))
   all_goals first
    |(have o7 := PU.out.2
      have P7 := Lib.hid (P6.out.only o7.out (fun i e => .inl (by subst e; exact GQ.out)))
      have O7 := Lib.hid (O6.out.trans o7.out (fun i e => .inr (by subst e; exact HQ6.out)))
      have ob := Lib.hid (only_cell (((((((w6.setCell ⟨q6, l.len * 7, none⟩ (.int .i64 pk)).setCell ⟨q6, l.len * 7 + 1, none⟩ (.int .i64 pa)).setCell ⟨q6, l.len * 7 + 2, none⟩ (.int .i64 pn)).setCell ⟨q6, l.len * 7 + 3, none⟩ (.string ps)).setCell ⟨q6, l.len * 7 + 4, none⟩ (.int .i64 po)).setCell ⟨q6, l.len * 7 + 5, none⟩ (.slice pA pm pc)).setCell ⟨q6, l.len * 7 + 6, none⟩ (.slice pB pi pd)) b 3 (.slice (some ⟨q6, 0, none⟩) (l.len + 1) c6))
      have P9 := Lib.hid (P7.out.only ob.out (fun i e => .inl (by have := HGB.out; omega)))
      have O9 := Lib.hid (O7.out.trans ob.out (fun n f => .inl (.inr f)))
      have KB9 := Lib.hid (blkF3 KB7.out (.slice (some ⟨q6, 0, none⟩) (l.len + 1) c6))
      have own9 := Lib.hid (ownsRow_only PU.out.1.out ob.out (fun k e => by have := HB.out; omega))
      have o79 := ((Only.refl (fun k => k = q6 ∨ k = b) w6).trans o7.out (fun n e => .inl (.inl e))).trans ob.out (fun n e => .inl (.inr e))
      have o3 := Lib.hid (only3 (v' := (.slice (some ⟨q6, 0, none⟩) (l.len + 1) c6)) (b := b) OG.out o79 (fun k e => e.elim (fun e => .inl (by rw [e]; rfl)) .inr))
      clear o79
      have SL_9 := Lib.hid (byPut (b := b) (cs := #[(.int .i64 pk), (.int .i64 pa), (.int .i64 pn), (.string ps), (.int .i64 po), (.slice pA pm pc), (.slice pB pi pd)]) (nqv HB.out) SL_x.out REx.out rfl own9.out o3.out (L6.out.imp id (fun e => ⟨_, e, Nat.le_refl _⟩)))
      have SB_9 := Lib.hid (byGrow HB.out o3.out ND.out (L6.out.imp id (fun e => ⟨_, e, Nat.le_refl _⟩)) SB_x.out)
      generalize ((((((((w6.setCell ⟨q6, l.len * 7, none⟩ (.int .i64 pk)).setCell ⟨q6, l.len * 7 + 1, none⟩ (.int .i64 pa)).setCell ⟨q6, l.len * 7 + 2, none⟩ (.int .i64 pn)).setCell ⟨q6, l.len * 7 + 3, none⟩ (.string ps)).setCell ⟨q6, l.len * 7 + 4, none⟩ (.int .i64 po)).setCell ⟨q6, l.len * 7 + 5, none⟩ (.slice pA pm pc)).setCell ⟨q6, l.len * 7 + 6, none⟩ (.slice pB pi pd)).setCell ⟨b, 3, none⟩ (.slice (some ⟨q6, 0, none⟩) (l.len + 1) c6)) = wz at *
      with_reducible refine HQP.out wz _ _ _ _ _ _ _ _ _ _ _ _ _ ?_
      exact ⟨q6, c6, _, P9.out, O9.out, KB9.out, SL_9.out, SB_9.out.1, SB_9.out.2, IRX.out⟩)
    |(have o7 := PUb.out.2
      have P7 := Lib.hid (P6.out.only obs.out (fun i e => .inl (by have := HGB.out; omega)))
      have O7 := Lib.hid (O6.out.trans obs.out (fun n f => .inl (.inr f)))
      have P9 := Lib.hid (P7.out.only o7.out (fun i e => .inl (by subst e; exact GQ.out)))
      have O9 := Lib.hid (O7.out.trans o7.out (fun i e => .inr (by subst e; exact HQ6.out)))
      have KB9 := Lib.hid (KBs.out.only o7.out BQ.out)
      have own9 := PUb.out.1
      have o79 := ((Only.refl (fun k => k = q6 ∨ k = b) w6).trans obs.out (fun n e => .inl (.inr e))).trans o7.out (fun n e => .inl (.inl e))
      have o3 := Lib.hid (only3 (v' := (.slice (some ⟨q6, 0, none⟩) (l.len + 1) c6)) (b := b) OG.out o79 (fun k e => e.elim (fun e => .inl (by rw [e]; rfl)) .inr))
      clear o79
      have SL_9 := Lib.hid (byPut (b := b) (cs := #[(.int .i64 pk), (.int .i64 pa), (.int .i64 pn), (.string ps), (.int .i64 po), (.slice pA pm pc), (.slice pB pi pd)]) (nqv HB.out) SL_x.out REx.out rfl own9.out o3.out (L6.out.imp id (fun e => ⟨_, e, Nat.le_refl _⟩)))
      have SB_9 := Lib.hid (byGrow HB.out o3.out ND.out (L6.out.imp id (fun e => ⟨_, e, Nat.le_refl _⟩)) SB_x.out)
      generalize ((((((((w6.setCell ⟨b, 3, none⟩ (.slice (some ⟨q6, 0, none⟩) (l.len + 1) c6)).setCell ⟨q6, l.len * 7, none⟩ (.int .i64 pk)).setCell ⟨q6, l.len * 7 + 1, none⟩ (.int .i64 pa)).setCell ⟨q6, l.len * 7 + 2, none⟩ (.int .i64 pn)).setCell ⟨q6, l.len * 7 + 3, none⟩ (.string ps)).setCell ⟨q6, l.len * 7 + 4, none⟩ (.int .i64 po)).setCell ⟨q6, l.len * 7 + 5, none⟩ (.slice pA pm pc)).setCell ⟨q6, l.len * 7 + 6, none⟩ (.slice pB pi pd)) = wz at *
      with_reducible refine HQP.out wz _ _ _ _ _ _ _ _ _ _ _ _ _ ?_
      exact ⟨q6, c6, _, P9.out, O9.out, KB9.out, SL_9.out, SB_9.out.1, SB_9.out.2, IRX.out⟩)
  ·intro w70 x0 x1 x2 x3 x4 x5 x6 x7 x8 x9 x10 x11 x12 hS
   obtain ⟨qL, cL, us, p, o, kb, sl, sb, nd, ii⟩ := hS
   clear ND SL_50 SB_50 P50 O50 KB50
   have P70 := Lib.hid p
   have O70 := Lib.hid o
   have KB70 := Lib.hid kb
   have SL_70 := Lib.hid sl
   have SB_70 := Lib.hid sb
   have ND := Lib.hid nd
   have IRX := Lib.hid ii
   clear p o kb sl sb nd ii
   simp only [Act.put, List.setIfInBounds_toArray, List.set_cons_zero, List.set_cons_succ, Nat.reduceAdd]
   go_wp2_with (first
    |(go_at_call 51; (with_reducible refine (TT.out _ P70.out).mono ?_); rintro e w71 ⟨rfl, p, o⟩; have P71 := Lib.hid p; have O71 := Lib.hid (O70.out.trans o (fun n f => .inl (.inl f))); have KB71 := Lib.hid (KB70.out.only o (by have := HGB.out; omega)); have SL_71 := Lib.hid (byMv HFG.out o SL_70.out); have SB_71 := Lib.hid (byMv HFG.out o SB_70.out); clear p o))
   refine wp_cut12 117 (fun w' => ∃ (q6 c6 : Nat) (wn : List Value), PS w' g tg c T q.2 ∧ Only (fun k => k = g ∨ k = b) W w' ∧ Blk w' b #[.int .i64 4, .int .i64 a, .slice none 0 0, (.slice (some ⟨qL, 0, none⟩) (l.len + 1) cL), (.slice (some ⟨q6, 0, none⟩) (bk.len + 1) c6)] 42 ∧ OwnX 39 7 W.heap.size (QV W (.slice (some ⟨q6, 0, none⟩) (bk.len + 1) c6)) w' (.slice (some ⟨qL, 0, none⟩) (l.len + 1) cL) (X.snoc l r.1) us ∧ OwnX 23 1 W.heap.size (QV W (.slice (some ⟨qL, 0, none⟩) (l.len + 1) cL)) w' (.slice (some ⟨q6, 0, none⟩) (bk.len + 1) c6) (X.snoc bk (.blk q.1)) wn ∧ (∀ k, ((.slice (some ⟨qL, 0, none⟩) (l.len + 1) cL) : Value).ownBlock = some k → ((.slice (some ⟨q6, 0, none⟩) (bk.len + 1) c6) : Value).ownBlock ≠ some k) ∧ s2.i ≤ q.2.i) ?_ ?_
   ·intro Qp hQp
    simp only [Act.put, List.setIfInBounds_toArray, List.set_cons_zero, List.set_cons_succ, Nat.reduceAdd] at hQp
    have HQP := Lib.hid hQp
    clear hQp
    have mixed : Try.prog.follows .mixedOrders = true := by kernel_rfl
    have PA := Lib.hid (P71.out.sm (Sm.drewn w71))
    obtain ⟨⟨z0, z1, z2, z3, z4⟩, -⟩ := KB71.out.five
    go_region_law (first | (refine step_append_blk rfl (.tmp 121) (.tmp 125) rfl W.heap.size ((.slice B bk.len cB)) (bk.len) (zs) ?_ ?_ w72.heap.size ?_ (.slice D q.1.len cD) ?_ ?_ ?_ ?_ ?_; rfl; exact (byBel (Nat.le_refl _) (al_below w72 (.cells #[.slice D q.1.len cD] 23)) SB_72.out).row; rfl; exact Blk.new w72 #[.slice D q.1.len cD] 23; rfl; exact Nat.le_trans HB3.out (by decide); exact Nat.le_trans O72.out.size (Nat.le_of_lt (al_lt w72 _)); intro v6 w6 own6 g6 l6; obtain ⟨q6, c6, rfl, hq6⟩ := own_pos own6; have OG := Lib.hid (grown_only g6); have L6 := Lib.hid l6; have RW6 := Lib.hid own6; have hown := Lib.hid (fun k (e : ((.slice B bk.len cB) : Value).ownBlock = some k) => (SB_72.out.row.lt k e).1); have KB6 := Lib.hid ((blk_al (.cells #[.slice D q.1.len cD] 23) KB72.out).only OG.out (fun e => by have := hown.out _ e; have := HB.out; omega)); obtain ⟨⟨r0, r1, r2, r3, r4⟩, f0, f1, f2, f3, f4⟩ := KB6.out.five; clear own6 g6 l6 hq6) | (go_simp; go_at_call 16; refine (BL1.out _ PA.out).mono ?_; rintro e w72 ⟨⟨v, rfl, sl⟩, p, o, ii⟩; obtain ⟨D, cD, rfl, sl⟩ := sl_shape sl; have o : Only (fun b => b = g) w71 w72 := ⟨o.os, o.tape, o.output, o.size, o.block⟩; have P72 := Lib.hid p; have O72 := Lib.hid (O71.out.trans o (fun n f => .inl (.inl f))); have KB72 := Lib.hid (KB71.out.only o (by have := HGB.out; omega)); have SL_72 := Lib.hid (byMv HFG.out o SL_71.out); have SB_72 := Lib.hid (byMv HFG.out o SB_71.out); have RE_72 := Lib.hid (OwnX.elem (w := w72) (w1 := w71) (x := .blk q.1) (cs := #[.slice D q.1.len cD]) SB_71.out (qvAll SL_71.out O71.out.size) ⟨_, rfl, sl⟩); have IRB := Lib.hid ii; clear p o ii sl; obtain ⟨⟨y0, y1, y2, y3, y4⟩, -⟩ := KB72.out.five; have ya4 := keep_al (.cells #[.slice D q.1.len cD] 23) y4))
    all_goals
     have SL_x := Lib.hid (byBel (Nat.le_refl _) (al_below w72 (.cells #[.slice D q.1.len cD] 23)) SL_72.out)
     have SB_x := Lib.hid (byBel (Nat.le_refl _) (al_below w72 (.cells #[.slice D q.1.len cD] 23)) SB_72.out)
     have REx := Lib.hid (mv_below (al_below w72 (.cells #[.slice D q.1.len cD] 23)) RE_72.out)
     have P6 := Lib.hid ((P72.out.alloc (.cells #[.slice D q.1.len cD] 23)).only OG.out (fun i e => .inl (by have := hown.out i e; have := HG.out; omega)))
     have O6 := Lib.hid ((O72.out.alloc (.cells #[.slice D q.1.len cD] 23)).trans OG.out (fun i e => .inr (hown.out i e)))
     have ob := Lib.hid (only_cell w6 b 4 (.slice (some ⟨q6, 0, none⟩) (bk.len + 1) c6))
     have P9 := Lib.hid (P6.out.only ob.out (fun i e => .inl (by have := HGB.out; omega)))
     have O9 := Lib.hid (O6.out.trans ob.out (fun n f => .inl (.inr f)))
     have KB9 := Lib.hid (blkF4 KB6.out (.slice (some ⟨q6, 0, none⟩) (bk.len + 1) c6))
     have own9 := Lib.hid (ownsRow_only RW6.out ob.out (fun k e => by have := HB.out; omega))
     have o3 := Lib.hid (only3 (v' := (.slice (some ⟨q6, 0, none⟩) (bk.len + 1) c6)) (b := b) OG.out ob.out (fun k e => .inr e))
     have SB_9 := Lib.hid (byPut (b := b) (cs := #[.slice D q.1.len cD]) (nqv HB.out) SB_x.out REx.out rfl own9.out o3.out (L6.out.imp id (fun e => ⟨_, e, Nat.le_refl _⟩)))
     have SL_9 := Lib.hid (byGrow HB.out o3.out (ndSym ND.out) (L6.out.imp id (fun e => ⟨_, e, Nat.le_refl _⟩)) SL_x.out)
     generalize w6.setCell ⟨b, 4, none⟩ (.slice (some ⟨q6, 0, none⟩) (bk.len + 1) c6) = wz at *
     with_reducible refine HQP.out wz _ _ _ _ _ _ _ _ _ _ _ _ ?_
     exact ⟨q6, c6, _, P9.out, O9.out, KB9.out, SL_9.out.1, SB_9.out, ndSym SL_9.out.2, IRB.out⟩
   ·intro w91 x0 x1 x2 x3 x4 x5 x6 x7 x8 x9 x10 x11 hS
    obtain ⟨qB, cB2, vs91, p, o, kb, sl, sb, nd, ii⟩ := hS
    clear ND SL_71 SB_71 P71 O71 KB71
    have P91 := Lib.hid p
    have O91 := Lib.hid o
    have KB91 := Lib.hid kb
    have SL_91 := Lib.hid sl
    have SB_91 := Lib.hid sb
    have ND := Lib.hid nd
    have IRB := Lib.hid ii
    clear p o kb sl sb nd ii
    simp only [Act.put, List.setIfInBounds_toArray, List.set_cons_zero, List.set_cons_succ, Nat.reduceAdd]
    cases hm : is T ⟨#[101, 108, 115, 101, 105, 102]⟩ q.2 with
    | true =>
     have EM := EM.out
     rw [hm, if_pos rfl] at OC EM
     have EM := Lib.hid EM
     clear hm
     go_wp2_with (first
      |(go_at_call 35; (with_reducible refine (OC.out _ P91.out).mono ?_); rintro e w92 ⟨rfl, p, o⟩; have P92 := Lib.hid p; have O92 := Lib.hid (O91.out.trans o (fun n f => .inl (.inl f))); have KB92 := Lib.hid (KB91.out.only o (by have := HGB.out; omega)); have SL_92 := Lib.hid (byMv HFG.out o SL_91.out); have SB_92 := Lib.hid (byMv HFG.out o SB_91.out); clear p o))
     refine ⟨⟨k, up q.2, _, _, _, _, _, _, P92.out, O92.out, KB92.out, SL_92.out, SB_92.out, ND.out, EM.out, (by have h1 := HK.out; have h2 := IRX.out; have h3 := HTT.out; have h4 := IRB.out; have h5 : (up q.2).i = q.2.i + 1 := rfl; have h6 := HI.out; have h7 := HL.out; have h8 := HBL.out; have h9 := HINB.out; have ha := HU.out; omega), (by have h1 := HK.out; have h2 := IRX.out; have h3 := HTT.out; have h4 := IRB.out; have h5 : (up q.2).i = q.2.i + 1 := rfl; have h6 := HI.out; have h7 := HL.out; have h8 := HBL.out; have h9 := HINB.out; have ha := HU.out; omega), (by rw [X.len_snoc]; have h1 := HK.out; have h2 := IRX.out; have h3 := HTT.out; have h4 := IRB.out; have h5 : (up q.2).i = q.2.i + 1 := rfl; have h6 := HI.out; have h7 := HL.out; have h8 := HBL.out; have h9 := HINB.out; have ha := HU.out; omega), (by rw [X.len_snoc]; have h1 := HK.out; have h2 := IRX.out; have h3 := HTT.out; have h4 := IRB.out; have h5 : (up q.2).i = q.2.i + 1 := rfl; have h6 := HI.out; have h7 := HL.out; have h8 := HBL.out; have h9 := HINB.out; have ha := HU.out; omega)⟩, ?_⟩
     rw [P92.out.mB, MB.out]
     have h1 := HK.out; have h2 := IRX.out; have h3 := HTT.out; have h4 := IRB.out; have h5 : (up q.2).i = q.2.i + 1 := rfl; have h6 := HI.out; have h7 := HL.out; have h8 := HBL.out; have h9 := HINB.out; have ha := HU.out; 
     split <;> split <;> omega
    | false =>
     have EM := EM.out
     rw [hm, if_neg (show ¬ (false = true) from nofun)] at OC EM
     have EZ := HZ.out
     rw [← EM] at EZ
     dsimp only at EZ
     have OE := Lib.hid (fun W1 (h1 : PS W1 g tg c T q.2) => opt_any h1 HGG.out ⟨#[101, 108, 115, 101]⟩)
     unfold PrM.opt at OE
     clear hm EM HZ
     cases hE : is T ⟨#[101, 108, 115, 101]⟩ q.2 with
     | true =>
      rw [hE, if_pos rfl] at OE EZ
      clear hE
      have HUQ := Lib.hid (show (up q.2).i = q.2.i + 1 from rfl)
      have BL3 := Lib.hid (fun W1 (h1 : PS W1 g tg c T (up q.2)) => BL.out W1 _ h1)
      generalize (fs T F).block (d : Int) (up q.2) = p2 at *
      have TN := Lib.hid (fun W1 (h1 : PS W1 g tg c T p2.2) => take_any h1 HGG.out ⟨#[101, 110, 100]⟩)
      have HTN := Lib.hid (take_i2 (T := T) ⟨#[101, 110, 100]⟩ p2.2)
      generalize PrM.take T ⟨#[101, 110, 100]⟩ p2.2 = s9 at *
      have HB4 := Lib.hid (show (X.snoc bk (.blk q.1)).len ≤ 200000 by rw [X.len_snoc]; have := HB3.out; omega)
      have EZ := Lib.hid EZ.symm
      go_wp2_with (first
       |(go_at_call 35; (with_reducible refine (OC.out _ P91.out).mono ?_); rintro e w92 ⟨rfl, p, o⟩; have P92 := Lib.hid p; have O92 := Lib.hid (O91.out.trans o (fun n f => .inl (.inl f))); have KB92 := Lib.hid (KB91.out.only o (by have := HGB.out; omega)); have SL_92 := Lib.hid (byMv HFG.out o SL_91.out); have SB_92 := Lib.hid (byMv HFG.out o SB_91.out); clear p o)
       |(go_at_call 35; (with_reducible refine (OE.out _ P92.out).mono ?_); rintro e w93 ⟨rfl, p, o⟩; have P93 := Lib.hid p; have O93 := Lib.hid (O92.out.trans o (fun n f => .inl (.inl f))); have KB93 := Lib.hid (KB92.out.only o (by have := HGB.out; omega)); have SL_93 := Lib.hid (byMv HFG.out o SL_92.out); have SB_93 := Lib.hid (byMv HFG.out o SB_92.out); clear p o))
      refine wp_cut12 134 (fun w' => ∃ (q6 c6 : Nat) (wn : List Value), PS w' g tg c T p2.2 ∧ Only (fun k => k = g ∨ k = b) W w' ∧ Blk w' b #[.int .i64 4, .int .i64 a, .slice none 0 0, (.slice (some ⟨qL, 0, none⟩) (l.len + 1) cL), (.slice (some ⟨q6, 0, none⟩) ((X.snoc bk (.blk q.1)).len + 1) c6)] 42 ∧ OwnX 39 7 W.heap.size (QV W (.slice (some ⟨q6, 0, none⟩) ((X.snoc bk (.blk q.1)).len + 1) c6)) w' (.slice (some ⟨qL, 0, none⟩) (l.len + 1) cL) (X.snoc l r.1) us ∧ OwnX 23 1 W.heap.size (QV W (.slice (some ⟨qL, 0, none⟩) (l.len + 1) cL)) w' (.slice (some ⟨q6, 0, none⟩) ((X.snoc bk (.blk q.1)).len + 1) c6) (X.snoc (X.snoc bk (.blk q.1)) (.blk p2.1)) wn ∧ (∀ k, ((.slice (some ⟨qL, 0, none⟩) (l.len + 1) cL) : Value).ownBlock = some k → ((.slice (some ⟨q6, 0, none⟩) ((X.snoc bk (.blk q.1)).len + 1) c6) : Value).ownBlock ≠ some k) ∧ (up q.2).i ≤ p2.2.i) ?_ ?_
      ·intro Qp hQp
       simp only [Act.put, List.setIfInBounds_toArray, List.set_cons_zero, List.set_cons_succ, Nat.reduceAdd] at hQp
       have HQP := Lib.hid hQp
       clear hQp
       have mixed : Try.prog.follows .mixedOrders = true := by kernel_rfl
       have PA := Lib.hid (P93.out.sm (Sm.drewn w93))
       obtain ⟨⟨z0, z1, z2, z3, z4⟩, -⟩ := KB93.out.five
       go_region_law (first | (refine step_append_blk rfl (.tmp 138) (.tmp 142) rfl W.heap.size ((.slice (some ⟨qB, 0, none⟩) (bk.len + 1) cB2)) ((X.snoc bk (.blk q.1)).len) (vs91) ?_ ?_ w94.heap.size ?_ (.slice G p2.1.len cG) ?_ ?_ ?_ ?_ ?_; rfl; exact (byBel (Nat.le_refl _) (al_below w94 (.cells #[.slice G p2.1.len cG] 23)) SB_94.out).row; rfl; exact Blk.new w94 #[.slice G p2.1.len cG] 23; rfl; exact Nat.le_trans HB4.out (by decide); exact Nat.le_trans O94.out.size (Nat.le_of_lt (al_lt w94 _)); intro v6 w6 own6 g6 l6; obtain ⟨q6, c6, rfl, hq6⟩ := own_pos own6; have OG := Lib.hid (grown_only g6); have L6 := Lib.hid l6; have RW6 := Lib.hid own6; have hown := Lib.hid (fun k (e : ((.slice (some ⟨qB, 0, none⟩) (bk.len + 1) cB2) : Value).ownBlock = some k) => (SB_94.out.row.lt k e).1); have KB6 := Lib.hid ((blk_al (.cells #[.slice G p2.1.len cG] 23) KB94.out).only OG.out (fun e => by have := hown.out _ e; have := HB.out; omega)); obtain ⟨⟨r0, r1, r2, r3, r4⟩, f0, f1, f2, f3, f4⟩ := KB6.out.five; clear own6 g6 l6 hq6) | (go_simp; go_at_call 16; refine (BL3.out _ PA.out).mono ?_; rintro e w94 ⟨⟨v, rfl, sl⟩, p, o, ii⟩; obtain ⟨G, cG, rfl, sl⟩ := sl_shape sl; have o : Only (fun b => b = g) w93 w94 := ⟨o.os, o.tape, o.output, o.size, o.block⟩; have P94 := Lib.hid p; have O94 := Lib.hid (O93.out.trans o (fun n f => .inl (.inl f))); have KB94 := Lib.hid (KB93.out.only o (by have := HGB.out; omega)); have SL_94 := Lib.hid (byMv HFG.out o SL_93.out); have SB_94 := Lib.hid (byMv HFG.out o SB_93.out); have RE_94 := Lib.hid (OwnX.elem (w := w94) (w1 := w93) (x := .blk p2.1) (cs := #[.slice G p2.1.len cG]) SB_93.out (qvAll SL_93.out O93.out.size) ⟨_, rfl, sl⟩); have IRC := Lib.hid ii; clear p o ii sl; obtain ⟨⟨y0, y1, y2, y3, y4⟩, -⟩ := KB94.out.five; have ya4 := keep_al (.cells #[.slice G p2.1.len cG] 23) y4))
       all_goals
        have SL_x := Lib.hid (byBel (Nat.le_refl _) (al_below w94 (.cells #[.slice G p2.1.len cG] 23)) SL_94.out)
        have SB_x := Lib.hid (byBel (Nat.le_refl _) (al_below w94 (.cells #[.slice G p2.1.len cG] 23)) SB_94.out)
        have REx := Lib.hid (mv_below (al_below w94 (.cells #[.slice G p2.1.len cG] 23)) RE_94.out)
        have P6 := Lib.hid ((P94.out.alloc (.cells #[.slice G p2.1.len cG] 23)).only OG.out (fun i e => .inl (by have := hown.out i e; have := HG.out; omega)))
        have O6 := Lib.hid ((O94.out.alloc (.cells #[.slice G p2.1.len cG] 23)).trans OG.out (fun i e => .inr (hown.out i e)))
        have ob := Lib.hid (only_cell w6 b 4 (.slice (some ⟨q6, 0, none⟩) ((X.snoc bk (.blk q.1)).len + 1) c6))
        have P9 := Lib.hid (P6.out.only ob.out (fun i e => .inl (by have := HGB.out; omega)))
        have O9 := Lib.hid (O6.out.trans ob.out (fun n f => .inl (.inr f)))
        have KB9 := Lib.hid (blkF4 KB6.out (.slice (some ⟨q6, 0, none⟩) ((X.snoc bk (.blk q.1)).len + 1) c6))
        have own9 := Lib.hid (ownsRow_only RW6.out ob.out (fun k e => by have := HB.out; omega))
        have o3 := Lib.hid (only3 (v' := (.slice (some ⟨q6, 0, none⟩) ((X.snoc bk (.blk q.1)).len + 1) c6)) (b := b) OG.out ob.out (fun k e => .inr e))
        have SB_9 := Lib.hid (byPut (b := b) (cs := #[.slice G p2.1.len cG]) (nqv HB.out) SB_x.out REx.out rfl own9.out o3.out (L6.out.imp id (fun e => ⟨_, e, Nat.le_refl _⟩)))
        have SL_9 := Lib.hid (byGrow HB.out o3.out (ndSym ND.out) (L6.out.imp id (fun e => ⟨_, e, Nat.le_refl _⟩)) SL_x.out)
        generalize w6.setCell ⟨b, 4, none⟩ (.slice (some ⟨q6, 0, none⟩) ((X.snoc bk (.blk q.1)).len + 1) c6) = wz at *
        with_reducible refine HQP.out wz _ _ _ _ _ _ _ _ _ _ _ _ ?_
        exact ⟨q6, c6, _, P9.out, O9.out, KB9.out, SL_9.out.1, SB_9.out, ndSym SL_9.out.2, IRC.out⟩
      ·intro w113 x0 x1 x2 x3 x4 x5 x6 x7 x8 x9 x10 x11 hS
       obtain ⟨qC, cC, vs113, p, o, kb, sl, sb, nd, ii⟩ := hS
       clear ND SL_93 SB_93 P93 O93 KB93
       have P113 := Lib.hid p
       have O113 := Lib.hid o
       have KB113 := Lib.hid kb
       have SL_113 := Lib.hid sl
       have SB_113 := Lib.hid sb
       have ND := Lib.hid nd
       have IRC := Lib.hid ii
       clear p o kb sl sb nd ii
       simp only [Act.put, List.setIfInBounds_toArray, List.set_cons_zero, List.set_cons_succ, Nat.reduceAdd]
       go_wp2_with (first
        |(go_at_call 51; (with_reducible refine (TN.out _ P113.out).mono ?_); rintro e w114 ⟨rfl, p, o⟩; have P114 := Lib.hid p; have O114 := Lib.hid (O113.out.trans o (fun n f => .inl (.inl f))); have KB114 := Lib.hid (KB113.out.only o (by have := HGB.out; omega)); have SL_114 := Lib.hid (byMv HFG.out o SL_113.out); have SB_114 := Lib.hid (byMv HFG.out o SB_113.out); clear p o))
       go_end0
       rw [EZ.out]
       exact ⟨rfl, ⟨_, _, _, _, _, KB114.out, _, _, _, rfl, strsN _ _, byOut SL_114.out, byOut SB_114.out⟩, P114.out, O114.out, (by have h1 := HK.out; have h2 := IRX.out; have h3 := HTT.out; have h4 := IRB.out; have h5 : (up q.2).i = q.2.i + 1 := rfl; have h6 := HI.out; have h7 := HL.out; have h8 := HBL.out; have h9 := HINB.out; have ha := HU.out; have hb := HUQ.out; have hc := IRC.out; have hd := HTN.out; show st.i ≤ s9.i; omega), .inr (by have h1 := HK.out; have h2 := IRX.out; have h3 := HTT.out; have h4 := IRB.out; have h5 : (up q.2).i = q.2.i + 1 := rfl; have h6 := HI.out; have h7 := HL.out; have h8 := HBL.out; have h9 := HINB.out; have ha := HU.out; have hb := HUQ.out; have hc := IRC.out; have hd := HTN.out; show st.i < s9.i; omega)⟩
     | false =>
      rw [hE, if_neg (show ¬ (false = true) from nofun)] at OE EZ
      clear hE
      have TN := Lib.hid (fun W1 (h1 : PS W1 g tg c T q.2) => take_any h1 HGG.out ⟨#[101, 110, 100]⟩)
      have HTN := Lib.hid (take_i2 (T := T) ⟨#[101, 110, 100]⟩ q.2)
      generalize PrM.take T ⟨#[101, 110, 100]⟩ q.2 = s9 at *
      have EZ := Lib.hid EZ.symm
      go_wp2_with (first
       |(go_at_call 35; (with_reducible refine (OC.out _ P91.out).mono ?_); rintro e w92 ⟨rfl, p, o⟩; have P92 := Lib.hid p; have O92 := Lib.hid (O91.out.trans o (fun n f => .inl (.inl f))); have KB92 := Lib.hid (KB91.out.only o (by have := HGB.out; omega)); have SL_92 := Lib.hid (byMv HFG.out o SL_91.out); have SB_92 := Lib.hid (byMv HFG.out o SB_91.out); clear p o)
       |(go_at_call 35; (with_reducible refine (OE.out _ P92.out).mono ?_); rintro e w93 ⟨rfl, p, o⟩; have P93 := Lib.hid p; have O93 := Lib.hid (O92.out.trans o (fun n f => .inl (.inl f))); have KB93 := Lib.hid (KB92.out.only o (by have := HGB.out; omega)); have SL_93 := Lib.hid (byMv HFG.out o SL_92.out); have SB_93 := Lib.hid (byMv HFG.out o SB_92.out); clear p o)
       |(go_at_call 51; (with_reducible refine (TN.out _ P93.out).mono ?_); rintro e w94 ⟨rfl, p, o⟩; have P94 := Lib.hid p; have O94 := Lib.hid (O93.out.trans o (fun n f => .inl (.inl f))); have KB94 := Lib.hid (KB93.out.only o (by have := HGB.out; omega)); have SL_94 := Lib.hid (byMv HFG.out o SL_93.out); have SB_94 := Lib.hid (byMv HFG.out o SB_93.out); clear p o))
      go_end0
      rw [EZ.out]
      exact ⟨rfl, ⟨_, _, _, _, _, KB94.out, _, _, _, rfl, strsN _ _, byOut SL_94.out, byOut SB_94.out⟩, P94.out, O94.out, (by have h1 := HK.out; have h2 := IRX.out; have h3 := HTT.out; have h4 := IRB.out; have h5 : (up q.2).i = q.2.i + 1 := rfl; have h6 := HI.out; have h7 := HL.out; have h8 := HBL.out; have h9 := HINB.out; have ha := HU.out; have hd := HTN.out; show st.i ≤ s9.i; omega), .inr (by have h1 := HK.out; have h2 := IRX.out; have h3 := HTT.out; have h4 := IRB.out; have h5 : (up q.2).i = q.2.i + 1 := rfl; have h6 := HI.out; have h7 := HL.out; have h8 := HBL.out; have h9 := HINB.out; have ha := HU.out; have hd := HTN.out; show st.i < s9.i; omega)⟩
end
end Go.Proofs.Yteakhlnnepjhpaa
