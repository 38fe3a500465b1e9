/- Texts of one proof behind one another: PrN0, PrN1, PrN2, PrN4, PrN5, PrZ. -/
import Derived.Test.YteakhlnnepjhpaaKh
import Derived.Test.YteakhlnnepjhpaaKf
import Derived.Test.YteakhlnnepjhpaaKg
import Derived.Test.YteakhlnnepjhpaaKb
/- The document's parser: level's own work at 0 (printed by genpr6.py). -/
namespace Go.Proofs.Yteakhlnnepjhpaa
open Go.RowKit PrM
set_option linter.unusedVariables false
set_option linter.unusedSimpArgs false
section
variable {F g tg c : Nat} {T : List LxM.T}
set_option maxRecDepth 20000 in
set_option maxHeartbeats 16000000 in
theorem level_at0 (hG : PrM.Good T) (hF : OkF g tg c T F) (W : World) (st : St) (d : Nat) (h : PS W g tg c T st) (hd : d ≤ 100) (h0 : st.code = 0) (hm : 100 * (101 - d) + 20 ≤ F + 1) : Calls Try.prog 48 #[ptr g, .int .i64 0, .int .i64 (d : Int)] W (RE W g tg c T st ((fs T (F + 1)).level 0 d st)) := by
 have e1 : (fs T (F + 1)).level 0 (d : Int) st = levelL T ((fs T F).level 1 (d : Int)) 0 T.length ((fs T F).level 1 (d : Int) st).1 ((fs T F).level 1 (d : Int) st).2 := by
  show levelS T (fs T F) 0 d st = _
  unfold levelS
  rw [if_neg (by rw [h0]; decide), if_neg (by decide), if_neg (by decide)]
 rw [e1]
 obtain ⟨R, eR⟩ : ∃ R, levelL T ((fs T F).level 1 (d : Int)) 0 T.length ((fs T F).level 1 (d : Int) st).1 ((fs T F).level 1 (d : Int) st).2 = R := ⟨_, rfl⟩
 rw [eR]
 have HR := Lib.hid eR
 have B0 := Lib.hid (Only.of_below (F := fun b => b = g) ((Below.refl W.heap.size W).alloc (Nat.le_refl _) (.cells Z7 39)))
 have K4_0 := Lib.hid (Blk.new W Z7 39)
 have HG := Lib.hid h.blk.lt
 have G4 := HG
 have HW0 : Hid (g < (W.alloc (.cells Z7 39)).heap.size) := Nat.lt_trans HG.out (al_lt W _)
 have P0 := Lib.hid (h.alloc (.cells Z7 39))
 have O0 := Lib.hid (Only.refl (fun b => b = g) (W.alloc (.cells Z7 39)))
 have i0 : (0 : Int) ≤ (d : Int) := by omega
 have i1 : (d : Int) ≤ 100 := by omega
 have HGG := Lib.hid hG
 have LV := Lib.hid (fun W1 st1 (h1 : PS W1 g tg c T st1) => hF.level W1 st1 1 d h1 (by omega) (by omega) (fun _ => hd) (by omega))
 generalize (fs T F).level 1 (d : Int) = nx at *
 have PT := Lib.hid (h.only (Only.of_below (F := fun _ => False) (tab_below W)) (fun _ f => f.elim))
 have OT := Lib.hid (Only.of_below (F := fun b => b = g) (tab_below W))
 obtain ⟨⟨d0, d1, d2, d3⟩, -⟩ := P0.out.blk.four
 rw [h0] at d2
 clear hF hm e1 eR hG h h0
 go_enter Try.func48, Try.ntmps48
 have HBO := Lib.hid (show g < W.heap.size + 1 by have := HG.out; omega)
 have HBC := Lib.hid (show g < W.heap.size + 1 + 1 + 1 + 1 + 1 + 1 + 1 by have := HG.out; omega)
 go_wp2_with (first
  |(go_at_call 48; refine (LV.out _ _ PT.out).mono ?_; rintro e w1 ⟨⟨v0, v1, v2, v3, v4, v5, v6, rfl, rd⟩, p, o, ii⟩; have P1 := Lib.hid p; have O1 := Lib.hid (OT.out.up o); have RX := Lib.hid rd; have II := Lib.hid ii; have KR1 := Lib.hid ((tab_res W).only o (by have := HG.out; omega)); have KO1 := Lib.hid ((tab_o0 W).only o (by have := HG.out; omega)); have KC1 := Lib.hid ((tab_c0 W).only o (by have := HG.out; omega)); have SB := Lib.hid o.size; have NB := Lib.hid (Blk.new w1 Z7 39); clear p o rd ii d0 d1 d2 d3)
  |(refine wpList_store_row rfl 39 (.tmp 9) (.tmp 52) rfl w1.heap.size #[v0, v1, v2, v3, v4, v5, v6] rfl rfl 39 _ NB.out sizeE rfl (ones7 (Rd.one_cells _ _ RX.out)) ?_; obtain ⟨w2, hw, bb, K2, ss⟩ := box7 w1 #[v0, v1, v2, v3, v4, v5, v6] Z7; rw [← hw]; clear hw NB))
 have HTW := Lib.hid (show (W.alloc (.cells Z7 39)).heap.size ≤ (TabW W).heap.size from tab_size W)
 have HS1 : Hid ((W.alloc (.cells Z7 39)).heap.size ≤ w1.heap.size) := Lib.hid (Nat.le_trans HTW.out SB.out)
 have H13 : Hid (W.heap.size + 13 ≤ w1.heap.size) := Lib.hid (by have := SB.out; simp only [World.size_alloc] at this; omega)
 have G9 : Hid (g < w1.heap.size) := Lib.hid (Nat.lt_of_lt_of_le HW0.out HS1.out)
 have GO := HBO
 have GC := HBC
 have PS2 := Lib.hid (P1.out.only (Only.of_below (F := fun _ => False) bb.out) (fun _ f => f.elim))
 have OS2 := Lib.hid (O1.out.bel bb.out)
 have RX2 := Lib.hid (firstA (w0 := W.alloc (.cells Z7 39)) bb.out HTW.out RX.out)
 have KR2 := Lib.hid (KR1.out.below bb.out KR1.out.lt)
 have KO2 := Lib.hid (KO1.out.below bb.out KO1.out.lt)
 have KC2 := Lib.hid (KC1.out.below bb.out KC1.out.lt)
 try simp only [Act.put]
 go_loopw [10] (fun _ wr => ∃ (k : Nat) (s1 : St) (x : X) (v0 v1 v2 v3 v4 v5 v6 : Value), PS wr g tg c T s1 ∧ Only (fun b => b = g) W wr ∧ Blk wr w1.heap.size #[v0, v1, v2, v3, v4, v5, v6] 39 ∧ Blk wr W.heap.size Z7 39 ∧ Blk wr (W.heap.size + 1) #[.string ⟨#[111, 114]⟩] 9 ∧ Blk wr (W.heap.size + 1 + 1 + 1 + 1 + 1 + 1 + 1) #[.int .i64 0] 3 ∧ (Rd wr (PA (W.alloc (.cells Z7 39)) w1.heap.size) x).cells #[v0, v1, v2, v3, v4, v5, v6] ∧ levelL T nx 0 k x s1 = R ∧ (s1.code = 0 → T.length ≤ k + s1.i) ∧ st.i ≤ s1.i) (fun _ wr => mB T.length g wr)
 case atStart => exact ⟨T.length, _, _, _, _, _, _, _, _, _, PS2.out, OS2.out, K2.out, KR2.out, KO2.out, KC2.out, RX2.out, HR.out, fun _ => Nat.le_add_right _ _, II.out⟩
 case round =>
  obtain ⟨k, s1, x, y0, y1, y2, y3, y4, y5, y6, p0, ow, k9, k4, ko, kc, rx, hM, hk, hi⟩ := hrel
  have PR := Lib.hid p0
  have OW := Lib.hid ow
  have K9 := Lib.hid k9
  have K4 := Lib.hid k4
  have KO := Lib.hid ko
  have KC := Lib.hid kc
  have RX := Lib.hid rx
  have HM := Lib.hid hM
  have HK := Lib.hid hk
  have HI := Lib.hid hi
  have MB := Lib.hid (p0.mB (N := T.length))
  clear p0 ow k9 k4 ko kc rx hM hk hi P1 O1 RX2 KR1 KO1 KC1 PS2 OS2 KR2 KO2 KC2 K2 II SB P0
  obtain ⟨wq, hwq⟩ : ∃ wq, wq = wr := ⟨_, rfl⟩
  subst hwq
  go_wp2_with fail
  go_loopw [10] (fun i wi => ∃ j : Nat, i = .int .i64 (j : Int) ∧ j ≤ 1 ∧ Below wq.heap.size wq wi ∧ pick T s1 ((ops 0).drop j) = pick T s1 (ops 0)) (fun i _ => 1 - (intOf i).toNat)
  case atStart => exact ⟨0, rfl, Nat.zero_le _, Below.refl _ _, rfl⟩
  case round =>
   obtain ⟨j, rfl, hj, bi, hp⟩ := hrel
   have BI := Lib.hid bi
   have HP := Lib.hid hp
   have PI := Lib.hid (PR.out.below bi)
   have K9I := Lib.hid (K9.out.below bi K9.out.lt)
   have KOI := Lib.hid (KO.out.below bi KO.out.lt)
   have j0 : (0 : Int) ≤ (j : Int) := by omega
   clear bi hp
   by_cases hlt : j < 1
   ·have j1 : (j : Int) < 1 := by omega
    have cj := tab_cell (f := fun o : ByteArray × Int => Value.string o.1) (l := ops 0) KOI.out rfl hlt
    have NX := Lib.hid (pick_next (T := T) (st := s1) (l := ops 0) hlt)
    have HE := Lib.hid (pick_here (T := T) (st := s1) (l := ops 0) hlt)
    have CC := Lib.hid (fun w (h : Blk w (W.heap.size + 1 + 1 + 1 + 1 + 1 + 1 + 1) #[.int .i64 0] 3) => tab_cell (f := fun o : ByteArray × Int => Value.int .i64 o.2) (l := ops 0) h rfl hlt)
    obtain ⟨⟨nm, op⟩, cc⟩ : ∃ q : ByteArray × Int, (ops 0)[j] = q := ⟨_, rfl⟩
    rw [cc] at cj NX HE CC
    clear cc
    dsimp only at cj NX HE CC
    have IS := Lib.hid (is_any PI.out nm)
    cases hb : is T nm s1 with
    | false =>
     have NX := Lib.hid (NX.out hb)
     rw [hb] at IS
     clear hb HE CC
     have wk1 : wrap64 ((j : Int) + 1) = ((j + 1 : Nat) : Int) := by unfold wrap64; omega
     go_wp2_with (go_at_call 36; refine IS.out.mono ?_; rintro e w3 ⟨rfl, b⟩; have BB := Lib.hid (BI.out.trans (b.mono BI.out.size)); clear b)
     refine ⟨⟨j + 1, by first | rfl | rw [wk1], hlt, BB.out, by rw [← NX.out]; exact HP.out⟩, by simp [intOf]; omega⟩
    | true =>
     have HE := Lib.hid (HE.out hb)
     rw [hb] at IS
     have hc := is_code hb
     have nx1 := is_next PI.out HGG.out nm hb
     have UP := Lib.hid nx1
     have hk := HK.out hc
     have inb := PR.out.inb
     obtain ⟨k, rfl⟩ : ∃ q, k = q + 1 := ⟨k - 1, by omega⟩
     have EM : Hid (levelL T nx 0 k (.e 16 (place T s1) 0 ⟨#[]⟩ op (X.two x (nx (up s1)).1) .nil) (nx (up s1)).2 = R) := Lib.hid (by
      have h1 := HM.out
      unfold PrM.levelL at h1
      rw [← HP.out, HE.out] at h1
      exact h1)
     have q0 : (0 : Int) ≤ (s1.i : Int) := by omega
     have q1 : (s1.i : Int) < 100000 := by have := PR.out.small; omega
     have HC := Lib.hid hc
     have HK1 := Lib.hid hk
     clear hb hc nx1 hk inb NX hj
     have HLT := Lib.hid hlt
     have jn : ((j : Int) == 1) = false := by rw [beq_eq_false_iff_ne]; omega
     clear hlt
     go_wp2_with (first
      |(go_at_call 36; refine IS.out.mono ?_; rintro e w20 ⟨rfl, b⟩; have BB := Lib.hid (BI.out.trans (b.mono BI.out.size)); have P20 := Lib.hid (PI.out.below b); have O20 := Lib.hid (Only.refl (fun b => b = g) w20); have K9_20 := Lib.hid (K9.out.below BB.out K9.out.lt); have K4_20 := Lib.hid (K4.out.below BB.out K4.out.lt); have KO_20 := Lib.hid (KO.out.below BB.out KO.out.lt); have KC_20 := Lib.hid (KC.out.below BB.out KC.out.lt); have Rx_20 := Lib.hid (mv_below BB.out RX.out); have HWR := Lib.hid P20.out.blk.lt; clear b)
      |(go_at_call 34; with_reducible refine (place_any P20.out).mono ?_; rintro e w21 ⟨rfl, sm⟩; have P21 := Lib.hid (P20.out.sm sm); have O21 := Lib.hid (O20.out.bel (sm.below _)); have K9_21 := Lib.hid (K9_20.out.sm sm); have K4_21 := Lib.hid (K4_20.out.sm sm); have KO_21 := Lib.hid (KO_20.out.sm sm); have KC_21 := Lib.hid (KC_20.out.sm sm); have Rx_21 := Lib.hid (mv_below (sm.below _) Rx_20.out); clear sm; obtain ⟨⟨d0, d1, d2, d3⟩, fr0, fr1, fr2, fr3⟩ := P21.out.blk.four; have oo := only_set (g := g) w21 (.int .i64 ((s1.i : Int) + 1)); have P22 := Lib.hid (PS.inc P21.out (UP.out)); have O22 := Lib.hid (O21.out.up oo); have K9_22 := Lib.hid (K9_21.out.only oo (by have := G9.out; omega)); have K4_22 := Lib.hid (K4_21.out.only oo (by have := G4.out; omega)); have KO_22 := Lib.hid (KO_21.out.only oo (by have := GO.out; omega)); have KC_22 := Lib.hid (KC_21.out.only oo (by have := GC.out; omega)); have Rx_22 := Lib.hid (mvA oo HW0.out Rx_21.out); clear oo)
      |(go_at_call 48; refine (LV.out _ (up s1) P22.out).mono ?_; rintro e w23 ⟨⟨u0, u1, u2, u3, u4, u5, u6, rfl, rd⟩, p, o, ii⟩; have P23 := Lib.hid (p); have O23 := Lib.hid (O22.out.up o); have K9_23 := Lib.hid (K9_22.out.only o (by have := G9.out; omega)); have K4_23 := Lib.hid (K4_22.out.only o (by have := G4.out; omega)); have KO_23 := Lib.hid (KO_22.out.only o (by have := GO.out; omega)); have KC_23 := Lib.hid (KC_22.out.only o (by have := GC.out; omega)); have Rx_23 := Lib.hid (mvA o HW0.out Rx_22.out); have Ry_23 := Lib.hid (wideA (Nat.le_trans HS1.out (Nat.le_of_lt K9_22.out.lt)) K9_22.out.lt rd); have Iy := Lib.hid ii; have NB23 := Lib.hid (Blk.new w23 Z7 39); clear p o rd ii)
      |(refine wpList_store_row rfl 39 (.tmp 12) (.tmp 86) rfl w23.heap.size #[u0, u1, u2, u3, u4, u5, u6] rfl rfl 39 _ NB23.out sizeE rfl (ones7 (Rd.one_cells _ _ Ry_23.out)) ?_; obtain ⟨w24, hw, bb, K12_24, ss⟩ := box7 w23 #[u0, u1, u2, u3, u4, u5, u6] Z7; rw [← hw]; clear hw NB23; have G12 := Lib.hid (show g < w23.heap.size from Nat.lt_of_lt_of_le HWR.out O23.out.size); have P24 := Lib.hid (P23.out.only (Only.of_below (F := fun _ => False) bb.out) (fun _ f => f.elim)); have O24 := Lib.hid (O23.out.bel bb.out); have K9_24 := Lib.hid (K9_23.out.below bb.out K9_23.out.lt); have K4_24 := Lib.hid (K4_23.out.below bb.out K4_23.out.lt); have KO_24 := Lib.hid (KO_23.out.below bb.out KO_23.out.lt); have KC_24 := Lib.hid (KC_23.out.below bb.out KC_23.out.lt); have Rx_24 := Lib.hid (mv_below bb.out Rx_23.out); have Ry_24 := Lib.hid (mv_below bb.out Ry_23.out); clear bb ss; obtain ⟨⟨a0, a1, a2, a3, a4, a5, a6⟩, f0, f1, f2, f3, f4, f5, f6⟩ := K9_24.out.seven; obtain ⟨⟨b0, b1, b2, b3, b4, b5, b6⟩, -⟩ := K12_24.out.seven; have hcc := CC.out _ KC_24.out))

     have KD := Lib.hid (blk_al (.cells #[y0, y1, y2, y3, y4, y5, y6, u0, u1, u2, u3, u4, u5, u6] 39) K9_24.out)
     have hcd := keep_ad (.cells #[y0, y1, y2, y3, y4, y5, y6, u0, u1, u2, u3, u4, u5, u6] 39) hcc
     obtain ⟨⟨a0', a1', a2', a3', a4', a5', a6'⟩, f0', f1', f2', f3', f4', f5', f6'⟩ := KD.out.seven
     go_region
     obtain ⟨w25, hw25, K25, O25⟩ := set7 KD.out (.int .i64 16) (.int .i64 (place T s1)) (.int .i64 0) (.string ⟨#[]⟩) (.int .i64 op) (.slice (some ⟨w24.heap.size, 0, none⟩) 2 2) (.slice none 0 0)
     rw [← hw25]
     clear hw25 a0 a1 a2 a3 a4 a5 a6 a0' a1' a2' a3' a4' a5' a6' f0 f1 f2 f3 f4 f5 f6 f0' f1' f2' f3' f4' f5' f6' hcd hcc b0 b1 b2 b3 b4 b5 b6
     go_wp2_with fail
     have hsz := H13.out
     have PE := (P24.out.alloc (.cells #[y0, y1, y2, y3, y4, y5, y6, u0, u1, u2, u3, u4, u5, u6] 39)).only O25.out (fun i e => .inl (by subst e; exact G9.out))
     refine ⟨⟨k, (nx (up s1)).2, .e 16 (place T s1) 0 ⟨#[]⟩ op (X.two x (nx (up s1)).1) .nil, _, _, _, _, _, _, _, PE, (((OW.out.bel BB.out).up O24.out).alloc (.cells #[y0, y1, y2, y3, y4, y5, y6, u0, u1, u2, u3, u4, u5, u6] 39)).trans O25.out (fun n e => .inr (by omega)), K25.out, (blk_al _ K4_24.out).only O25.out (by omega), (blk_al _ KO_24.out).only O25.out (by omega), (blk_al _ KC_24.out).only O25.out (by omega), mvA7 O25.out (binA w24 16 (place T s1) op Rx_24.out Ry_24.out ⟨Nat.le_trans HS1.out (Nat.le_of_lt K9_24.out.lt), (by have := K9_24.out.lt; omega)⟩), EM.out, ?_, ?_⟩, ?_⟩
     ·intro _; have h1 := HK1.out; have h2 := Iy.out; rw [up_i] at h2; omega
     ·have h1 := HI.out; have h2 := Iy.out; rw [up_i] at h2; omega
     ·rw [PE.mB, MB.out, if_pos HC.out]
      have h2 := Iy.out; rw [up_i] at h2
      have := PR.out.inb
      split <;> omega
   ·obtain rfl : j = 1 := by omega
    have ER : Hid (R = (x, s1)) := Lib.hid (by
     rw [← HM.out]
     cases k with
     | zero => rfl
     | succ k => unfold PrM.levelL; rw [← HP.out, pick_end (by decide)])
    have K4I := Lib.hid (K4.out.below BI.out K4.out.lt)
    have RXI := Lib.hid (loA (mv_below BI.out RX.out))
    have OI := Lib.hid (OW.out.bel BI.out)
    have OB := Lib.hid ((B0.out).size)
    obtain ⟨⟨a0, a1, a2, a3, a4, a5, a6⟩, -⟩ := K9I.out.seven
    go_wp2_with (first
     |(refine wpList_store_row rfl 39 (.tmp 6) (.tmp 72) rfl W.heap.size #[y0, y1, y2, y3, y4, y5, y6] rfl rfl 39 _ K4I.out sizeE rfl (ones7 (Rd.one_cells _ _ RXI.out)) ?_)
     |(refine wp_store_row 39 (.tmp 6) (.tmp 72) rfl W.heap.size #[y0, y1, y2, y3, y4, y5, y6] rfl rfl 39 _ K4I.out sizeE rfl (ones7 (Rd.one_cells _ _ RXI.out)) ?_))
    try simp only [Exit.inBlock, Exit.then]
    refine bodyPost_ret (res7 rfl _ _ W.heap.size _ _ _ _ _ _ _ rfl (blk_row K4I.out)) rfl ?_
    have er := ER.out
    rw [er]
    exact RE.end_ HG.out (Nat.le_refl _) (al_lt W (.cells Z7 39)) RXI.out PI.out OI.out HI.out
end
end Go.Proofs.Yteakhlnnepjhpaa
/- The document's parser: level's own work at 1 (printed by genpr6.py). -/
namespace Go.Proofs.Yteakhlnnepjhpaa
open Go.RowKit PrM
set_option linter.unusedVariables false
set_option linter.unusedSimpArgs false
section
variable {F g tg c : Nat} {T : List LxM.T}
set_option maxRecDepth 20000 in
set_option maxHeartbeats 16000000 in
theorem level_at1 (hG : PrM.Good T) (hF : OkF g tg c T F) (W : World) (st : St) (d : Nat) (h : PS W g tg c T st) (hd : d ≤ 100) (h0 : st.code = 0) (hm : 100 * (101 - d) + 18 ≤ F + 1) : Calls Try.prog 48 #[ptr g, .int .i64 1, .int .i64 (d : Int)] W (RE W g tg c T st ((fs T (F + 1)).level 1 d st)) := by
 have e1 : (fs T (F + 1)).level 1 (d : Int) st = levelL T ((fs T F).level 2 (d : Int)) 1 T.length ((fs T F).level 2 (d : Int) st).1 ((fs T F).level 2 (d : Int) st).2 := by
  show levelS T (fs T F) 1 d st = _
  unfold levelS
  rw [if_neg (by rw [h0]; decide), if_neg (by decide), if_neg (by decide)]
 rw [e1]
 obtain ⟨R, eR⟩ : ∃ R, levelL T ((fs T F).level 2 (d : Int)) 1 T.length ((fs T F).level 2 (d : Int) st).1 ((fs T F).level 2 (d : Int) st).2 = R := ⟨_, rfl⟩
 rw [eR]
 have HR := Lib.hid eR
 have B0 := Lib.hid (Only.of_below (F := fun b => b = g) ((Below.refl W.heap.size W).alloc (Nat.le_refl _) (.cells Z7 39)))
 have K4_0 := Lib.hid (Blk.new W Z7 39)
 have HG := Lib.hid h.blk.lt
 have G4 := HG
 have HW0 : Hid (g < (W.alloc (.cells Z7 39)).heap.size) := Nat.lt_trans HG.out (al_lt W _)
 have P0 := Lib.hid (h.alloc (.cells Z7 39))
 have O0 := Lib.hid (Only.refl (fun b => b = g) (W.alloc (.cells Z7 39)))
 have i0 : (0 : Int) ≤ (d : Int) := by omega
 have i1 : (d : Int) ≤ 100 := by omega
 have HGG := Lib.hid hG
 have LV := Lib.hid (fun W1 st1 (h1 : PS W1 g tg c T st1) => hF.level W1 st1 2 d h1 (by omega) (by omega) (fun _ => hd) (by omega))
 generalize (fs T F).level 2 (d : Int) = nx at *
 have PT := Lib.hid (h.only (Only.of_below (F := fun _ => False) (tab_below W)) (fun _ f => f.elim))
 have OT := Lib.hid (Only.of_below (F := fun b => b = g) (tab_below W))
 obtain ⟨⟨d0, d1, d2, d3⟩, -⟩ := P0.out.blk.four
 rw [h0] at d2
 clear hF hm e1 eR hG h h0
 go_enter Try.func48, Try.ntmps48
 have HBO := Lib.hid (show g < W.heap.size + 1 + 1 by have := HG.out; omega)
 have HBC := Lib.hid (show g < W.heap.size + 1 + 1 + 1 + 1 + 1 + 1 + 1 + 1 by have := HG.out; omega)
 go_wp2_with (first
  |(go_at_call 48; refine (LV.out _ _ PT.out).mono ?_; rintro e w1 ⟨⟨v0, v1, v2, v3, v4, v5, v6, rfl, rd⟩, p, o, ii⟩; have P1 := Lib.hid p; have O1 := Lib.hid (OT.out.up o); have RX := Lib.hid rd; have II := Lib.hid ii; have KR1 := Lib.hid ((tab_res W).only o (by have := HG.out; omega)); have KO1 := Lib.hid ((tab_o1 W).only o (by have := HG.out; omega)); have KC1 := Lib.hid ((tab_c1 W).only o (by have := HG.out; omega)); have SB := Lib.hid o.size; have NB := Lib.hid (Blk.new w1 Z7 39); clear p o rd ii d0 d1 d2 d3)
  |(refine wpList_store_row rfl 39 (.tmp 9) (.tmp 52) rfl w1.heap.size #[v0, v1, v2, v3, v4, v5, v6] rfl rfl 39 _ NB.out sizeE rfl (ones7 (Rd.one_cells _ _ RX.out)) ?_; obtain ⟨w2, hw, bb, K2, ss⟩ := box7 w1 #[v0, v1, v2, v3, v4, v5, v6] Z7; rw [← hw]; clear hw NB))
 have HTW := Lib.hid (show (W.alloc (.cells Z7 39)).heap.size ≤ (TabW W).heap.size from tab_size W)
 have HS1 : Hid ((W.alloc (.cells Z7 39)).heap.size ≤ w1.heap.size) := Lib.hid (Nat.le_trans HTW.out SB.out)
 have H13 : Hid (W.heap.size + 13 ≤ w1.heap.size) := Lib.hid (by have := SB.out; simp only [World.size_alloc] at this; omega)
 have G9 : Hid (g < w1.heap.size) := Lib.hid (Nat.lt_of_lt_of_le HW0.out HS1.out)
 have GO := HBO
 have GC := HBC
 have PS2 := Lib.hid (P1.out.only (Only.of_below (F := fun _ => False) bb.out) (fun _ f => f.elim))
 have OS2 := Lib.hid (O1.out.bel bb.out)
 have RX2 := Lib.hid (firstA (w0 := W.alloc (.cells Z7 39)) bb.out HTW.out RX.out)
 have KR2 := Lib.hid (KR1.out.below bb.out KR1.out.lt)
 have KO2 := Lib.hid (KO1.out.below bb.out KO1.out.lt)
 have KC2 := Lib.hid (KC1.out.below bb.out KC1.out.lt)
 try simp only [Act.put]
 go_loopw [10] (fun _ wr => ∃ (k : Nat) (s1 : St) (x : X) (v0 v1 v2 v3 v4 v5 v6 : Value), PS wr g tg c T s1 ∧ Only (fun b => b = g) W wr ∧ Blk wr w1.heap.size #[v0, v1, v2, v3, v4, v5, v6] 39 ∧ Blk wr W.heap.size Z7 39 ∧ Blk wr (W.heap.size + 1 + 1) #[.string ⟨#[97, 110, 100]⟩] 9 ∧ Blk wr (W.heap.size + 1 + 1 + 1 + 1 + 1 + 1 + 1 + 1) #[.int .i64 0] 3 ∧ (Rd wr (PA (W.alloc (.cells Z7 39)) w1.heap.size) x).cells #[v0, v1, v2, v3, v4, v5, v6] ∧ levelL T nx 1 k x s1 = R ∧ (s1.code = 0 → T.length ≤ k + s1.i) ∧ st.i ≤ s1.i) (fun _ wr => mB T.length g wr)
 case atStart => exact ⟨T.length, _, _, _, _, _, _, _, _, _, PS2.out, OS2.out, K2.out, KR2.out, KO2.out, KC2.out, RX2.out, HR.out, fun _ => Nat.le_add_right _ _, II.out⟩
 case round =>
  obtain ⟨k, s1, x, y0, y1, y2, y3, y4, y5, y6, p0, ow, k9, k4, ko, kc, rx, hM, hk, hi⟩ := hrel
  have PR := Lib.hid p0
  have OW := Lib.hid ow
  have K9 := Lib.hid k9
  have K4 := Lib.hid k4
  have KO := Lib.hid ko
  have KC := Lib.hid kc
  have RX := Lib.hid rx
  have HM := Lib.hid hM
  have HK := Lib.hid hk
  have HI := Lib.hid hi
  have MB := Lib.hid (p0.mB (N := T.length))
  clear p0 ow k9 k4 ko kc rx hM hk hi P1 O1 RX2 KR1 KO1 KC1 PS2 OS2 KR2 KO2 KC2 K2 II SB P0
  obtain ⟨wq, hwq⟩ : ∃ wq, wq = wr := ⟨_, rfl⟩
  subst hwq
  go_wp2_with fail
  go_loopw [10] (fun i wi => ∃ j : Nat, i = .int .i64 (j : Int) ∧ j ≤ 1 ∧ Below wq.heap.size wq wi ∧ pick T s1 ((ops 1).drop j) = pick T s1 (ops 1)) (fun i _ => 1 - (intOf i).toNat)
  case atStart => exact ⟨0, rfl, Nat.zero_le _, Below.refl _ _, rfl⟩
  case round =>
   obtain ⟨j, rfl, hj, bi, hp⟩ := hrel
   have BI := Lib.hid bi
   have HP := Lib.hid hp
   have PI := Lib.hid (PR.out.below bi)
   have K9I := Lib.hid (K9.out.below bi K9.out.lt)
   have KOI := Lib.hid (KO.out.below bi KO.out.lt)
   have j0 : (0 : Int) ≤ (j : Int) := by omega
   clear bi hp
   by_cases hlt : j < 1
   ·have j1 : (j : Int) < 1 := by omega
    have cj := tab_cell (f := fun o : ByteArray × Int => Value.string o.1) (l := ops 1) KOI.out rfl hlt
    have NX := Lib.hid (pick_next (T := T) (st := s1) (l := ops 1) hlt)
    have HE := Lib.hid (pick_here (T := T) (st := s1) (l := ops 1) hlt)
    have CC := Lib.hid (fun w (h : Blk w (W.heap.size + 1 + 1 + 1 + 1 + 1 + 1 + 1 + 1) #[.int .i64 0] 3) => tab_cell (f := fun o : ByteArray × Int => Value.int .i64 o.2) (l := ops 1) h rfl hlt)
    obtain ⟨⟨nm, op⟩, cc⟩ : ∃ q : ByteArray × Int, (ops 1)[j] = q := ⟨_, rfl⟩
    rw [cc] at cj NX HE CC
    clear cc
    dsimp only at cj NX HE CC
    have IS := Lib.hid (is_any PI.out nm)
    cases hb : is T nm s1 with
    | false =>
     have NX := Lib.hid (NX.out hb)
     rw [hb] at IS
     clear hb HE CC
     have wk1 : wrap64 ((j : Int) + 1) = ((j + 1 : Nat) : Int) := by unfold wrap64; omega
     go_wp2_with (go_at_call 36; refine IS.out.mono ?_; rintro e w3 ⟨rfl, b⟩; have BB := Lib.hid (BI.out.trans (b.mono BI.out.size)); clear b)
     refine ⟨⟨j + 1, by first | rfl | rw [wk1], hlt, BB.out, by rw [← NX.out]; exact HP.out⟩, by simp [intOf]; omega⟩
    | true =>
     have HE := Lib.hid (HE.out hb)
     rw [hb] at IS
     have hc := is_code hb
     have nx1 := is_next PI.out HGG.out nm hb
     have UP := Lib.hid nx1
     have hk := HK.out hc
     have inb := PR.out.inb
     obtain ⟨k, rfl⟩ : ∃ q, k = q + 1 := ⟨k - 1, by omega⟩
     have EM : Hid (levelL T nx 1 k (.e 15 (place T s1) 0 ⟨#[]⟩ op (X.two x (nx (up s1)).1) .nil) (nx (up s1)).2 = R) := Lib.hid (by
      have h1 := HM.out
      unfold PrM.levelL at h1
      rw [← HP.out, HE.out] at h1
      exact h1)
     have q0 : (0 : Int) ≤ (s1.i : Int) := by omega
     have q1 : (s1.i : Int) < 100000 := by have := PR.out.small; omega
     have HC := Lib.hid hc
     have HK1 := Lib.hid hk
     clear hb hc nx1 hk inb NX hj
     have HLT := Lib.hid hlt
     have jn : ((j : Int) == 1) = false := by rw [beq_eq_false_iff_ne]; omega
     clear hlt
     go_wp2_with (first
      |(go_at_call 36; refine IS.out.mono ?_; rintro e w20 ⟨rfl, b⟩; have BB := Lib.hid (BI.out.trans (b.mono BI.out.size)); have P20 := Lib.hid (PI.out.below b); have O20 := Lib.hid (Only.refl (fun b => b = g) w20); have K9_20 := Lib.hid (K9.out.below BB.out K9.out.lt); have K4_20 := Lib.hid (K4.out.below BB.out K4.out.lt); have KO_20 := Lib.hid (KO.out.below BB.out KO.out.lt); have KC_20 := Lib.hid (KC.out.below BB.out KC.out.lt); have Rx_20 := Lib.hid (mv_below BB.out RX.out); have HWR := Lib.hid P20.out.blk.lt; clear b)
      |(go_at_call 34; with_reducible refine (place_any P20.out).mono ?_; rintro e w21 ⟨rfl, sm⟩; have P21 := Lib.hid (P20.out.sm sm); have O21 := Lib.hid (O20.out.bel (sm.below _)); have K9_21 := Lib.hid (K9_20.out.sm sm); have K4_21 := Lib.hid (K4_20.out.sm sm); have KO_21 := Lib.hid (KO_20.out.sm sm); have KC_21 := Lib.hid (KC_20.out.sm sm); have Rx_21 := Lib.hid (mv_below (sm.below _) Rx_20.out); clear sm; obtain ⟨⟨d0, d1, d2, d3⟩, fr0, fr1, fr2, fr3⟩ := P21.out.blk.four; have oo := only_set (g := g) w21 (.int .i64 ((s1.i : Int) + 1)); have P22 := Lib.hid (PS.inc P21.out (UP.out)); have O22 := Lib.hid (O21.out.up oo); have K9_22 := Lib.hid (K9_21.out.only oo (by have := G9.out; omega)); have K4_22 := Lib.hid (K4_21.out.only oo (by have := G4.out; omega)); have KO_22 := Lib.hid (KO_21.out.only oo (by have := GO.out; omega)); have KC_22 := Lib.hid (KC_21.out.only oo (by have := GC.out; omega)); have Rx_22 := Lib.hid (mvA oo HW0.out Rx_21.out); clear oo)
      |(go_at_call 48; refine (LV.out _ (up s1) P22.out).mono ?_; rintro e w23 ⟨⟨u0, u1, u2, u3, u4, u5, u6, rfl, rd⟩, p, o, ii⟩; have P23 := Lib.hid (p); have O23 := Lib.hid (O22.out.up o); have K9_23 := Lib.hid (K9_22.out.only o (by have := G9.out; omega)); have K4_23 := Lib.hid (K4_22.out.only o (by have := G4.out; omega)); have KO_23 := Lib.hid (KO_22.out.only o (by have := GO.out; omega)); have KC_23 := Lib.hid (KC_22.out.only o (by have := GC.out; omega)); have Rx_23 := Lib.hid (mvA o HW0.out Rx_22.out); have Ry_23 := Lib.hid (wideA (Nat.le_trans HS1.out (Nat.le_of_lt K9_22.out.lt)) K9_22.out.lt rd); have Iy := Lib.hid ii; have NB23 := Lib.hid (Blk.new w23 Z7 39); clear p o rd ii)
      |(refine wpList_store_row rfl 39 (.tmp 12) (.tmp 86) rfl w23.heap.size #[u0, u1, u2, u3, u4, u5, u6] rfl rfl 39 _ NB23.out sizeE rfl (ones7 (Rd.one_cells _ _ Ry_23.out)) ?_; obtain ⟨w24, hw, bb, K12_24, ss⟩ := box7 w23 #[u0, u1, u2, u3, u4, u5, u6] Z7; rw [← hw]; clear hw NB23; have G12 := Lib.hid (show g < w23.heap.size from Nat.lt_of_lt_of_le HWR.out O23.out.size); have P24 := Lib.hid (P23.out.only (Only.of_below (F := fun _ => False) bb.out) (fun _ f => f.elim)); have O24 := Lib.hid (O23.out.bel bb.out); have K9_24 := Lib.hid (K9_23.out.below bb.out K9_23.out.lt); have K4_24 := Lib.hid (K4_23.out.below bb.out K4_23.out.lt); have KO_24 := Lib.hid (KO_23.out.below bb.out KO_23.out.lt); have KC_24 := Lib.hid (KC_23.out.below bb.out KC_23.out.lt); have Rx_24 := Lib.hid (mv_below bb.out Rx_23.out); have Ry_24 := Lib.hid (mv_below bb.out Ry_23.out); clear bb ss; obtain ⟨⟨a0, a1, a2, a3, a4, a5, a6⟩, f0, f1, f2, f3, f4, f5, f6⟩ := K9_24.out.seven; obtain ⟨⟨b0, b1, b2, b3, b4, b5, b6⟩, -⟩ := K12_24.out.seven; have hcc := CC.out _ KC_24.out))

     have KD := Lib.hid (blk_al (.cells #[y0, y1, y2, y3, y4, y5, y6, u0, u1, u2, u3, u4, u5, u6] 39) K9_24.out)
     have hcd := keep_ad (.cells #[y0, y1, y2, y3, y4, y5, y6, u0, u1, u2, u3, u4, u5, u6] 39) hcc
     obtain ⟨⟨a0', a1', a2', a3', a4', a5', a6'⟩, f0', f1', f2', f3', f4', f5', f6'⟩ := KD.out.seven
     go_region
     obtain ⟨w25, hw25, K25, O25⟩ := set7 KD.out (.int .i64 15) (.int .i64 (place T s1)) (.int .i64 0) (.string ⟨#[]⟩) (.int .i64 op) (.slice (some ⟨w24.heap.size, 0, none⟩) 2 2) (.slice none 0 0)
     rw [← hw25]
     clear hw25 a0 a1 a2 a3 a4 a5 a6 a0' a1' a2' a3' a4' a5' a6' f0 f1 f2 f3 f4 f5 f6 f0' f1' f2' f3' f4' f5' f6' hcd hcc b0 b1 b2 b3 b4 b5 b6
     go_wp2_with fail
     have hsz := H13.out
     have PE := (P24.out.alloc (.cells #[y0, y1, y2, y3, y4, y5, y6, u0, u1, u2, u3, u4, u5, u6] 39)).only O25.out (fun i e => .inl (by subst e; exact G9.out))
     refine ⟨⟨k, (nx (up s1)).2, .e 15 (place T s1) 0 ⟨#[]⟩ op (X.two x (nx (up s1)).1) .nil, _, _, _, _, _, _, _, PE, (((OW.out.bel BB.out).up O24.out).alloc (.cells #[y0, y1, y2, y3, y4, y5, y6, u0, u1, u2, u3, u4, u5, u6] 39)).trans O25.out (fun n e => .inr (by omega)), K25.out, (blk_al _ K4_24.out).only O25.out (by omega), (blk_al _ KO_24.out).only O25.out (by omega), (blk_al _ KC_24.out).only O25.out (by omega), mvA7 O25.out (binA w24 15 (place T s1) op Rx_24.out Ry_24.out ⟨Nat.le_trans HS1.out (Nat.le_of_lt K9_24.out.lt), (by have := K9_24.out.lt; omega)⟩), EM.out, ?_, ?_⟩, ?_⟩
     ·intro _; have h1 := HK1.out; have h2 := Iy.out; rw [up_i] at h2; omega
     ·have h1 := HI.out; have h2 := Iy.out; rw [up_i] at h2; omega
     ·rw [PE.mB, MB.out, if_pos HC.out]
      have h2 := Iy.out; rw [up_i] at h2
      have := PR.out.inb
      split <;> omega
   ·obtain rfl : j = 1 := by omega
    have ER : Hid (R = (x, s1)) := Lib.hid (by
     rw [← HM.out]
     cases k with
     | zero => rfl
     | succ k => unfold PrM.levelL; rw [← HP.out, pick_end (by decide)])
    have K4I := Lib.hid (K4.out.below BI.out K4.out.lt)
    have RXI := Lib.hid (loA (mv_below BI.out RX.out))
    have OI := Lib.hid (OW.out.bel BI.out)
    have OB := Lib.hid ((B0.out).size)
    obtain ⟨⟨a0, a1, a2, a3, a4, a5, a6⟩, -⟩ := K9I.out.seven
    go_wp2_with (first
     |(refine wpList_store_row rfl 39 (.tmp 6) (.tmp 72) rfl W.heap.size #[y0, y1, y2, y3, y4, y5, y6] rfl rfl 39 _ K4I.out sizeE rfl (ones7 (Rd.one_cells _ _ RXI.out)) ?_)
     |(refine wp_store_row 39 (.tmp 6) (.tmp 72) rfl W.heap.size #[y0, y1, y2, y3, y4, y5, y6] rfl rfl 39 _ K4I.out sizeE rfl (ones7 (Rd.one_cells _ _ RXI.out)) ?_))
    try simp only [Exit.inBlock, Exit.then]
    refine bodyPost_ret (res7 rfl _ _ W.heap.size _ _ _ _ _ _ _ rfl (blk_row K4I.out)) rfl ?_
    have er := ER.out
    rw [er]
    exact RE.end_ HG.out (Nat.le_refl _) (al_lt W (.cells Z7 39)) RXI.out PI.out OI.out HI.out
end
end Go.Proofs.Yteakhlnnepjhpaa
/- The document's parser: level's own work at 2 (printed by genpr6.py). -/
namespace Go.Proofs.Yteakhlnnepjhpaa
open Go.RowKit PrM
set_option linter.unusedVariables false
set_option linter.unusedSimpArgs false
section
variable {F g tg c : Nat} {T : List LxM.T}
set_option maxRecDepth 20000 in
set_option maxHeartbeats 16000000 in
theorem level_at2 (hG : PrM.Good T) (hF : OkF g tg c T F) (W : World) (st : St) (d : Nat) (h : PS W g tg c T st) (hd : d ≤ 100) (h0 : st.code = 0) (hm : 100 * (101 - d) + 16 ≤ F + 1) : Calls Try.prog 48 #[ptr g, .int .i64 2, .int .i64 (d : Int)] W (RE W g tg c T st ((fs T (F + 1)).level 2 d st)) := by
 have e1 : (fs T (F + 1)).level 2 (d : Int) st = levelL T ((fs T F).level 3 (d : Int)) 2 T.length ((fs T F).level 3 (d : Int) st).1 ((fs T F).level 3 (d : Int) st).2 := by
  show levelS T (fs T F) 2 d st = _
  unfold levelS
  rw [if_neg (by rw [h0]; decide), if_neg (by decide), if_neg (by decide)]
 rw [e1]
 obtain ⟨R, eR⟩ : ∃ R, levelL T ((fs T F).level 3 (d : Int)) 2 T.length ((fs T F).level 3 (d : Int) st).1 ((fs T F).level 3 (d : Int) st).2 = R := ⟨_, rfl⟩
 rw [eR]
 have HR := Lib.hid eR
 have B0 := Lib.hid (Only.of_below (F := fun b => b = g) ((Below.refl W.heap.size W).alloc (Nat.le_refl _) (.cells Z7 39)))
 have K4_0 := Lib.hid (Blk.new W Z7 39)
 have HG := Lib.hid h.blk.lt
 have G4 := HG
 have HW0 : Hid (g < (W.alloc (.cells Z7 39)).heap.size) := Nat.lt_trans HG.out (al_lt W _)
 have P0 := Lib.hid (h.alloc (.cells Z7 39))
 have O0 := Lib.hid (Only.refl (fun b => b = g) (W.alloc (.cells Z7 39)))
 have i0 : (0 : Int) ≤ (d : Int) := by omega
 have i1 : (d : Int) ≤ 100 := by omega
 have HGG := Lib.hid hG
 have LV := Lib.hid (fun W1 st1 (h1 : PS W1 g tg c T st1) => hF.level W1 st1 3 d h1 (by omega) (by omega) (fun _ => hd) (by omega))
 generalize (fs T F).level 3 (d : Int) = nx at *
 have PT := Lib.hid (h.only (Only.of_below (F := fun _ => False) (tab_below W)) (fun _ f => f.elim))
 have OT := Lib.hid (Only.of_below (F := fun b => b = g) (tab_below W))
 obtain ⟨⟨d0, d1, d2, d3⟩, -⟩ := P0.out.blk.four
 rw [h0] at d2
 clear hF hm e1 eR hG h h0
 go_enter Try.func48, Try.ntmps48
 have HBO := Lib.hid (show g < W.heap.size + 1 + 1 + 1 by have := HG.out; omega)
 have HBC := Lib.hid (show g < W.heap.size + 1 + 1 + 1 + 1 + 1 + 1 + 1 + 1 + 1 by have := HG.out; omega)
 go_wp2_with (first
  |(go_at_call 48; refine (LV.out _ _ PT.out).mono ?_; rintro e w1 ⟨⟨v0, v1, v2, v3, v4, v5, v6, rfl, rd⟩, p, o, ii⟩; have P1 := Lib.hid p; have O1 := Lib.hid (OT.out.up o); have RX := Lib.hid rd; have II := Lib.hid ii; have KR1 := Lib.hid ((tab_res W).only o (by have := HG.out; omega)); have KO1 := Lib.hid ((tab_o2 W).only o (by have := HG.out; omega)); have KC1 := Lib.hid ((tab_c2 W).only o (by have := HG.out; omega)); have SB := Lib.hid o.size; have NB := Lib.hid (Blk.new w1 Z7 39); clear p o rd ii d0 d1 d2 d3)
  |(refine wpList_store_row rfl 39 (.tmp 9) (.tmp 52) rfl w1.heap.size #[v0, v1, v2, v3, v4, v5, v6] rfl rfl 39 _ NB.out sizeE rfl (ones7 (Rd.one_cells _ _ RX.out)) ?_; obtain ⟨w2, hw, bb, K2, ss⟩ := box7 w1 #[v0, v1, v2, v3, v4, v5, v6] Z7; rw [← hw]; clear hw NB))
 have HTW := Lib.hid (show (W.alloc (.cells Z7 39)).heap.size ≤ (TabW W).heap.size from tab_size W)
 have HS1 : Hid ((W.alloc (.cells Z7 39)).heap.size ≤ w1.heap.size) := Lib.hid (Nat.le_trans HTW.out SB.out)
 have H13 : Hid (W.heap.size + 13 ≤ w1.heap.size) := Lib.hid (by have := SB.out; simp only [World.size_alloc] at this; omega)
 have G9 : Hid (g < w1.heap.size) := Lib.hid (Nat.lt_of_lt_of_le HW0.out HS1.out)
 have GO := HBO
 have GC := HBC
 have PS2 := Lib.hid (P1.out.only (Only.of_below (F := fun _ => False) bb.out) (fun _ f => f.elim))
 have OS2 := Lib.hid (O1.out.bel bb.out)
 have RX2 := Lib.hid (firstA (w0 := W.alloc (.cells Z7 39)) bb.out HTW.out RX.out)
 have KR2 := Lib.hid (KR1.out.below bb.out KR1.out.lt)
 have KO2 := Lib.hid (KO1.out.below bb.out KO1.out.lt)
 have KC2 := Lib.hid (KC1.out.below bb.out KC1.out.lt)
 try simp only [Act.put]
 go_loopw [10] (fun _ wr => ∃ (k : Nat) (s1 : St) (x : X) (v0 v1 v2 v3 v4 v5 v6 : Value), PS wr g tg c T s1 ∧ Only (fun b => b = g) W wr ∧ Blk wr w1.heap.size #[v0, v1, v2, v3, v4, v5, v6] 39 ∧ Blk wr W.heap.size Z7 39 ∧ Blk wr (W.heap.size + 1 + 1 + 1) #[.string ⟨#[61, 61]⟩, .string ⟨#[126, 61]⟩, .string ⟨#[60]⟩, .string ⟨#[60, 61]⟩, .string ⟨#[62]⟩, .string ⟨#[62, 61]⟩] 9 ∧ Blk wr (W.heap.size + 1 + 1 + 1 + 1 + 1 + 1 + 1 + 1 + 1) #[.int .i64 7, .int .i64 8, .int .i64 9, .int .i64 10, .int .i64 11, .int .i64 12] 3 ∧ (Rd wr (PA (W.alloc (.cells Z7 39)) w1.heap.size) x).cells #[v0, v1, v2, v3, v4, v5, v6] ∧ levelL T nx 2 k x s1 = R ∧ (s1.code = 0 → T.length ≤ k + s1.i) ∧ st.i ≤ s1.i) (fun _ wr => mB T.length g wr)
 case atStart => exact ⟨T.length, _, _, _, _, _, _, _, _, _, PS2.out, OS2.out, K2.out, KR2.out, KO2.out, KC2.out, RX2.out, HR.out, fun _ => Nat.le_add_right _ _, II.out⟩
 case round =>
  obtain ⟨k, s1, x, y0, y1, y2, y3, y4, y5, y6, p0, ow, k9, k4, ko, kc, rx, hM, hk, hi⟩ := hrel
  have PR := Lib.hid p0
  have OW := Lib.hid ow
  have K9 := Lib.hid k9
  have K4 := Lib.hid k4
  have KO := Lib.hid ko
  have KC := Lib.hid kc
  have RX := Lib.hid rx
  have HM := Lib.hid hM
  have HK := Lib.hid hk
  have HI := Lib.hid hi
  have MB := Lib.hid (p0.mB (N := T.length))
  clear p0 ow k9 k4 ko kc rx hM hk hi P1 O1 RX2 KR1 KO1 KC1 PS2 OS2 KR2 KO2 KC2 K2 II SB P0
  obtain ⟨wq, hwq⟩ : ∃ wq, wq = wr := ⟨_, rfl⟩
  subst hwq
  go_wp2_with fail
  go_loopw [10] (fun i wi => ∃ j : Nat, i = .int .i64 (j : Int) ∧ j ≤ 6 ∧ Below wq.heap.size wq wi ∧ pick T s1 ((ops 2).drop j) = pick T s1 (ops 2)) (fun i _ => 6 - (intOf i).toNat)
  case atStart => exact ⟨0, rfl, Nat.zero_le _, Below.refl _ _, rfl⟩
  case round =>
   obtain ⟨j, rfl, hj, bi, hp⟩ := hrel
   have BI := Lib.hid bi
   have HP := Lib.hid hp
   have PI := Lib.hid (PR.out.below bi)
   have K9I := Lib.hid (K9.out.below bi K9.out.lt)
   have KOI := Lib.hid (KO.out.below bi KO.out.lt)
   have j0 : (0 : Int) ≤ (j : Int) := by omega
   clear bi hp
   by_cases hlt : j < 6
   ·have j1 : (j : Int) < 6 := by omega
    have cj := tab_cell (f := fun o : ByteArray × Int => Value.string o.1) (l := ops 2) KOI.out rfl hlt
    have NX := Lib.hid (pick_next (T := T) (st := s1) (l := ops 2) hlt)
    have HE := Lib.hid (pick_here (T := T) (st := s1) (l := ops 2) hlt)
    have CC := Lib.hid (fun w (h : Blk w (W.heap.size + 1 + 1 + 1 + 1 + 1 + 1 + 1 + 1 + 1) #[.int .i64 7, .int .i64 8, .int .i64 9, .int .i64 10, .int .i64 11, .int .i64 12] 3) => tab_cell (f := fun o : ByteArray × Int => Value.int .i64 o.2) (l := ops 2) h rfl hlt)
    obtain ⟨⟨nm, op⟩, cc⟩ : ∃ q : ByteArray × Int, (ops 2)[j] = q := ⟨_, rfl⟩
    rw [cc] at cj NX HE CC
    clear cc
    dsimp only at cj NX HE CC
    have IS := Lib.hid (is_any PI.out nm)
    cases hb : is T nm s1 with
    | false =>
     have NX := Lib.hid (NX.out hb)
     rw [hb] at IS
     clear hb HE CC
     have wk1 : wrap64 ((j : Int) + 1) = ((j + 1 : Nat) : Int) := by unfold wrap64; omega
     go_wp2_with (go_at_call 36; refine IS.out.mono ?_; rintro e w3 ⟨rfl, b⟩; have BB := Lib.hid (BI.out.trans (b.mono BI.out.size)); clear b)
     refine ⟨⟨j + 1, by first | rfl | rw [wk1], hlt, BB.out, by rw [← NX.out]; exact HP.out⟩, by simp [intOf]; omega⟩
    | true =>
     have HE := Lib.hid (HE.out hb)
     rw [hb] at IS
     have hc := is_code hb
     have nx1 := is_next PI.out HGG.out nm hb
     have UP := Lib.hid nx1
     have hk := HK.out hc
     have inb := PR.out.inb
     obtain ⟨k, rfl⟩ : ∃ q, k = q + 1 := ⟨k - 1, by omega⟩
     have EM : Hid (levelL T nx 2 k (.e 14 (place T s1) 0 ⟨#[]⟩ op (X.two x (nx (up s1)).1) .nil) (nx (up s1)).2 = R) := Lib.hid (by
      have h1 := HM.out
      unfold PrM.levelL at h1
      rw [← HP.out, HE.out] at h1
      exact h1)
     have q0 : (0 : Int) ≤ (s1.i : Int) := by omega
     have q1 : (s1.i : Int) < 100000 := by have := PR.out.small; omega
     have HC := Lib.hid hc
     have HK1 := Lib.hid hk
     clear hb hc nx1 hk inb NX hj
     have HLT := Lib.hid hlt
     have jn : ((j : Int) == 6) = false := by rw [beq_eq_false_iff_ne]; omega
     clear hlt
     go_wp2_with (first
      |(go_at_call 36; refine IS.out.mono ?_; rintro e w20 ⟨rfl, b⟩; have BB := Lib.hid (BI.out.trans (b.mono BI.out.size)); have P20 := Lib.hid (PI.out.below b); have O20 := Lib.hid (Only.refl (fun b => b = g) w20); have K9_20 := Lib.hid (K9.out.below BB.out K9.out.lt); have K4_20 := Lib.hid (K4.out.below BB.out K4.out.lt); have KO_20 := Lib.hid (KO.out.below BB.out KO.out.lt); have KC_20 := Lib.hid (KC.out.below BB.out KC.out.lt); have Rx_20 := Lib.hid (mv_below BB.out RX.out); have HWR := Lib.hid P20.out.blk.lt; clear b)
      |(go_at_call 34; with_reducible refine (place_any P20.out).mono ?_; rintro e w21 ⟨rfl, sm⟩; have P21 := Lib.hid (P20.out.sm sm); have O21 := Lib.hid (O20.out.bel (sm.below _)); have K9_21 := Lib.hid (K9_20.out.sm sm); have K4_21 := Lib.hid (K4_20.out.sm sm); have KO_21 := Lib.hid (KO_20.out.sm sm); have KC_21 := Lib.hid (KC_20.out.sm sm); have Rx_21 := Lib.hid (mv_below (sm.below _) Rx_20.out); clear sm; obtain ⟨⟨d0, d1, d2, d3⟩, fr0, fr1, fr2, fr3⟩ := P21.out.blk.four; have oo := only_set (g := g) w21 (.int .i64 ((s1.i : Int) + 1)); have P22 := Lib.hid (PS.inc P21.out (UP.out)); have O22 := Lib.hid (O21.out.up oo); have K9_22 := Lib.hid (K9_21.out.only oo (by have := G9.out; omega)); have K4_22 := Lib.hid (K4_21.out.only oo (by have := G4.out; omega)); have KO_22 := Lib.hid (KO_21.out.only oo (by have := GO.out; omega)); have KC_22 := Lib.hid (KC_21.out.only oo (by have := GC.out; omega)); have Rx_22 := Lib.hid (mvA oo HW0.out Rx_21.out); clear oo)
      |(go_at_call 48; refine (LV.out _ (up s1) P22.out).mono ?_; rintro e w23 ⟨⟨u0, u1, u2, u3, u4, u5, u6, rfl, rd⟩, p, o, ii⟩; have P23 := Lib.hid (p); have O23 := Lib.hid (O22.out.up o); have K9_23 := Lib.hid (K9_22.out.only o (by have := G9.out; omega)); have K4_23 := Lib.hid (K4_22.out.only o (by have := G4.out; omega)); have KO_23 := Lib.hid (KO_22.out.only o (by have := GO.out; omega)); have KC_23 := Lib.hid (KC_22.out.only o (by have := GC.out; omega)); have Rx_23 := Lib.hid (mvA o HW0.out Rx_22.out); have Ry_23 := Lib.hid (wideA (Nat.le_trans HS1.out (Nat.le_of_lt K9_22.out.lt)) K9_22.out.lt rd); have Iy := Lib.hid ii; have NB23 := Lib.hid (Blk.new w23 Z7 39); clear p o rd ii)
      |(refine wpList_store_row rfl 39 (.tmp 12) (.tmp 86) rfl w23.heap.size #[u0, u1, u2, u3, u4, u5, u6] rfl rfl 39 _ NB23.out sizeE rfl (ones7 (Rd.one_cells _ _ Ry_23.out)) ?_; obtain ⟨w24, hw, bb, K12_24, ss⟩ := box7 w23 #[u0, u1, u2, u3, u4, u5, u6] Z7; rw [← hw]; clear hw NB23; have G12 := Lib.hid (show g < w23.heap.size from Nat.lt_of_lt_of_le HWR.out O23.out.size); have P24 := Lib.hid (P23.out.only (Only.of_below (F := fun _ => False) bb.out) (fun _ f => f.elim)); have O24 := Lib.hid (O23.out.bel bb.out); have K9_24 := Lib.hid (K9_23.out.below bb.out K9_23.out.lt); have K4_24 := Lib.hid (K4_23.out.below bb.out K4_23.out.lt); have KO_24 := Lib.hid (KO_23.out.below bb.out KO_23.out.lt); have KC_24 := Lib.hid (KC_23.out.below bb.out KC_23.out.lt); have Rx_24 := Lib.hid (mv_below bb.out Rx_23.out); have Ry_24 := Lib.hid (mv_below bb.out Ry_23.out); clear bb ss; obtain ⟨⟨a0, a1, a2, a3, a4, a5, a6⟩, f0, f1, f2, f3, f4, f5, f6⟩ := K9_24.out.seven; obtain ⟨⟨b0, b1, b2, b3, b4, b5, b6⟩, -⟩ := K12_24.out.seven; have hcc := CC.out _ KC_24.out))

     have KD := Lib.hid (blk_al (.cells #[y0, y1, y2, y3, y4, y5, y6, u0, u1, u2, u3, u4, u5, u6] 39) K9_24.out)
     have hcd := keep_ad (.cells #[y0, y1, y2, y3, y4, y5, y6, u0, u1, u2, u3, u4, u5, u6] 39) hcc
     obtain ⟨⟨a0', a1', a2', a3', a4', a5', a6'⟩, f0', f1', f2', f3', f4', f5', f6'⟩ := KD.out.seven
     go_region
     obtain ⟨w25, hw25, K25, O25⟩ := set7 KD.out (.int .i64 14) (.int .i64 (place T s1)) (.int .i64 0) (.string ⟨#[]⟩) (.int .i64 op) (.slice (some ⟨w24.heap.size, 0, none⟩) 2 2) (.slice none 0 0)
     rw [← hw25]
     clear hw25 a0 a1 a2 a3 a4 a5 a6 a0' a1' a2' a3' a4' a5' a6' f0 f1 f2 f3 f4 f5 f6 f0' f1' f2' f3' f4' f5' f6' hcd hcc b0 b1 b2 b3 b4 b5 b6
     go_wp2_with fail
     have hsz := H13.out
     have PE := (P24.out.alloc (.cells #[y0, y1, y2, y3, y4, y5, y6, u0, u1, u2, u3, u4, u5, u6] 39)).only O25.out (fun i e => .inl (by subst e; exact G9.out))
     refine ⟨⟨k, (nx (up s1)).2, .e 14 (place T s1) 0 ⟨#[]⟩ op (X.two x (nx (up s1)).1) .nil, _, _, _, _, _, _, _, PE, (((OW.out.bel BB.out).up O24.out).alloc (.cells #[y0, y1, y2, y3, y4, y5, y6, u0, u1, u2, u3, u4, u5, u6] 39)).trans O25.out (fun n e => .inr (by omega)), K25.out, (blk_al _ K4_24.out).only O25.out (by omega), (blk_al _ KO_24.out).only O25.out (by omega), (blk_al _ KC_24.out).only O25.out (by omega), mvA7 O25.out (binA w24 14 (place T s1) op Rx_24.out Ry_24.out ⟨Nat.le_trans HS1.out (Nat.le_of_lt K9_24.out.lt), (by have := K9_24.out.lt; omega)⟩), EM.out, ?_, ?_⟩, ?_⟩
     ·intro _; have h1 := HK1.out; have h2 := Iy.out; rw [up_i] at h2; omega
     ·have h1 := HI.out; have h2 := Iy.out; rw [up_i] at h2; omega
     ·rw [PE.mB, MB.out, if_pos HC.out]
      have h2 := Iy.out; rw [up_i] at h2
      have := PR.out.inb
      split <;> omega
   ·obtain rfl : j = 6 := by omega
    have ER : Hid (R = (x, s1)) := Lib.hid (by
     rw [← HM.out]
     cases k with
     | zero => rfl
     | succ k => unfold PrM.levelL; rw [← HP.out, pick_end (by decide)])
    have K4I := Lib.hid (K4.out.below BI.out K4.out.lt)
    have RXI := Lib.hid (loA (mv_below BI.out RX.out))
    have OI := Lib.hid (OW.out.bel BI.out)
    have OB := Lib.hid ((B0.out).size)
    obtain ⟨⟨a0, a1, a2, a3, a4, a5, a6⟩, -⟩ := K9I.out.seven
    go_wp2_with (first
     |(refine wpList_store_row rfl 39 (.tmp 6) (.tmp 72) rfl W.heap.size #[y0, y1, y2, y3, y4, y5, y6] rfl rfl 39 _ K4I.out sizeE rfl (ones7 (Rd.one_cells _ _ RXI.out)) ?_)
     |(refine wp_store_row 39 (.tmp 6) (.tmp 72) rfl W.heap.size #[y0, y1, y2, y3, y4, y5, y6] rfl rfl 39 _ K4I.out sizeE rfl (ones7 (Rd.one_cells _ _ RXI.out)) ?_))
    try simp only [Exit.inBlock, Exit.then]
    refine bodyPost_ret (res7 rfl _ _ W.heap.size _ _ _ _ _ _ _ rfl (blk_row K4I.out)) rfl ?_
    have er := ER.out
    rw [er]
    exact RE.end_ HG.out (Nat.le_refl _) (al_lt W (.cells Z7 39)) RXI.out PI.out OI.out HI.out
end
end Go.Proofs.Yteakhlnnepjhpaa
/- The document's parser: level's own work at 4 (printed by genpr6.py). -/
namespace Go.Proofs.Yteakhlnnepjhpaa
open Go.RowKit PrM
set_option linter.unusedVariables false
set_option linter.unusedSimpArgs false
section
variable {F g tg c : Nat} {T : List LxM.T}
set_option maxRecDepth 20000 in
set_option maxHeartbeats 16000000 in
theorem level_at4 (hG : PrM.Good T) (hF : OkF g tg c T F) (W : World) (st : St) (d : Nat) (h : PS W g tg c T st) (hd : d ≤ 100) (h0 : st.code = 0) (hm : 100 * (101 - d) + 12 ≤ F + 1) : Calls Try.prog 48 #[ptr g, .int .i64 4, .int .i64 (d : Int)] W (RE W g tg c T st ((fs T (F + 1)).level 4 d st)) := by
 have e1 : (fs T (F + 1)).level 4 (d : Int) st = levelL T ((fs T F).level 5 (d : Int)) 4 T.length ((fs T F).level 5 (d : Int) st).1 ((fs T F).level 5 (d : Int) st).2 := by
  show levelS T (fs T F) 4 d st = _
  unfold levelS
  rw [if_neg (by rw [h0]; decide), if_neg (by decide), if_neg (by decide)]
 rw [e1]
 obtain ⟨R, eR⟩ : ∃ R, levelL T ((fs T F).level 5 (d : Int)) 4 T.length ((fs T F).level 5 (d : Int) st).1 ((fs T F).level 5 (d : Int) st).2 = R := ⟨_, rfl⟩
 rw [eR]
 have HR := Lib.hid eR
 have B0 := Lib.hid (Only.of_below (F := fun b => b = g) ((Below.refl W.heap.size W).alloc (Nat.le_refl _) (.cells Z7 39)))
 have K4_0 := Lib.hid (Blk.new W Z7 39)
 have HG := Lib.hid h.blk.lt
 have G4 := HG
 have HW0 : Hid (g < (W.alloc (.cells Z7 39)).heap.size) := Nat.lt_trans HG.out (al_lt W _)
 have P0 := Lib.hid (h.alloc (.cells Z7 39))
 have O0 := Lib.hid (Only.refl (fun b => b = g) (W.alloc (.cells Z7 39)))
 have i0 : (0 : Int) ≤ (d : Int) := by omega
 have i1 : (d : Int) ≤ 100 := by omega
 have HGG := Lib.hid hG
 have LV := Lib.hid (fun W1 st1 (h1 : PS W1 g tg c T st1) => hF.level W1 st1 5 d h1 (by omega) (by omega) (fun _ => hd) (by omega))
 generalize (fs T F).level 5 (d : Int) = nx at *
 have PT := Lib.hid (h.only (Only.of_below (F := fun _ => False) (tab_below W)) (fun _ f => f.elim))
 have OT := Lib.hid (Only.of_below (F := fun b => b = g) (tab_below W))
 obtain ⟨⟨d0, d1, d2, d3⟩, -⟩ := P0.out.blk.four
 rw [h0] at d2
 clear hF hm e1 eR hG h h0
 go_enter Try.func48, Try.ntmps48
 have HBO := Lib.hid (show g < W.heap.size + 1 + 1 + 1 + 1 by have := HG.out; omega)
 have HBC := Lib.hid (show g < W.heap.size + 1 + 1 + 1 + 1 + 1 + 1 + 1 + 1 + 1 + 1 by have := HG.out; omega)
 go_wp2_with (first
  |(go_at_call 48; refine (LV.out _ _ PT.out).mono ?_; rintro e w1 ⟨⟨v0, v1, v2, v3, v4, v5, v6, rfl, rd⟩, p, o, ii⟩; have P1 := Lib.hid p; have O1 := Lib.hid (OT.out.up o); have RX := Lib.hid rd; have II := Lib.hid ii; have KR1 := Lib.hid ((tab_res W).only o (by have := HG.out; omega)); have KO1 := Lib.hid ((tab_o4 W).only o (by have := HG.out; omega)); have KC1 := Lib.hid ((tab_c4 W).only o (by have := HG.out; omega)); have SB := Lib.hid o.size; have NB := Lib.hid (Blk.new w1 Z7 39); clear p o rd ii d0 d1 d2 d3)
  |(refine wpList_store_row rfl 39 (.tmp 9) (.tmp 52) rfl w1.heap.size #[v0, v1, v2, v3, v4, v5, v6] rfl rfl 39 _ NB.out sizeE rfl (ones7 (Rd.one_cells _ _ RX.out)) ?_; obtain ⟨w2, hw, bb, K2, ss⟩ := box7 w1 #[v0, v1, v2, v3, v4, v5, v6] Z7; rw [← hw]; clear hw NB))
 have HTW := Lib.hid (show (W.alloc (.cells Z7 39)).heap.size ≤ (TabW W).heap.size from tab_size W)
 have HS1 : Hid ((W.alloc (.cells Z7 39)).heap.size ≤ w1.heap.size) := Lib.hid (Nat.le_trans HTW.out SB.out)
 have H13 : Hid (W.heap.size + 13 ≤ w1.heap.size) := Lib.hid (by have := SB.out; simp only [World.size_alloc] at this; omega)
 have G9 : Hid (g < w1.heap.size) := Lib.hid (Nat.lt_of_lt_of_le HW0.out HS1.out)
 have GO := HBO
 have GC := HBC
 have PS2 := Lib.hid (P1.out.only (Only.of_below (F := fun _ => False) bb.out) (fun _ f => f.elim))
 have OS2 := Lib.hid (O1.out.bel bb.out)
 have RX2 := Lib.hid (firstA (w0 := W.alloc (.cells Z7 39)) bb.out HTW.out RX.out)
 have KR2 := Lib.hid (KR1.out.below bb.out KR1.out.lt)
 have KO2 := Lib.hid (KO1.out.below bb.out KO1.out.lt)
 have KC2 := Lib.hid (KC1.out.below bb.out KC1.out.lt)
 try simp only [Act.put]
 go_loopw [10] (fun _ wr => ∃ (k : Nat) (s1 : St) (x : X) (v0 v1 v2 v3 v4 v5 v6 : Value), PS wr g tg c T s1 ∧ Only (fun b => b = g) W wr ∧ Blk wr w1.heap.size #[v0, v1, v2, v3, v4, v5, v6] 39 ∧ Blk wr W.heap.size Z7 39 ∧ Blk wr (W.heap.size + 1 + 1 + 1 + 1) #[.string ⟨#[43]⟩, .string ⟨#[45]⟩] 9 ∧ Blk wr (W.heap.size + 1 + 1 + 1 + 1 + 1 + 1 + 1 + 1 + 1 + 1) #[.int .i64 1, .int .i64 2] 3 ∧ (Rd wr (PA (W.alloc (.cells Z7 39)) w1.heap.size) x).cells #[v0, v1, v2, v3, v4, v5, v6] ∧ levelL T nx 4 k x s1 = R ∧ (s1.code = 0 → T.length ≤ k + s1.i) ∧ st.i ≤ s1.i) (fun _ wr => mB T.length g wr)
 case atStart => exact ⟨T.length, _, _, _, _, _, _, _, _, _, PS2.out, OS2.out, K2.out, KR2.out, KO2.out, KC2.out, RX2.out, HR.out, fun _ => Nat.le_add_right _ _, II.out⟩
 case round =>
  obtain ⟨k, s1, x, y0, y1, y2, y3, y4, y5, y6, p0, ow, k9, k4, ko, kc, rx, hM, hk, hi⟩ := hrel
  have PR := Lib.hid p0
  have OW := Lib.hid ow
  have K9 := Lib.hid k9
  have K4 := Lib.hid k4
  have KO := Lib.hid ko
  have KC := Lib.hid kc
  have RX := Lib.hid rx
  have HM := Lib.hid hM
  have HK := Lib.hid hk
  have HI := Lib.hid hi
  have MB := Lib.hid (p0.mB (N := T.length))
  clear p0 ow k9 k4 ko kc rx hM hk hi P1 O1 RX2 KR1 KO1 KC1 PS2 OS2 KR2 KO2 KC2 K2 II SB P0
  obtain ⟨wq, hwq⟩ : ∃ wq, wq = wr := ⟨_, rfl⟩
  subst hwq
  go_wp2_with fail
  go_loopw [10] (fun i wi => ∃ j : Nat, i = .int .i64 (j : Int) ∧ j ≤ 2 ∧ Below wq.heap.size wq wi ∧ pick T s1 ((ops 4).drop j) = pick T s1 (ops 4)) (fun i _ => 2 - (intOf i).toNat)
  case atStart => exact ⟨0, rfl, Nat.zero_le _, Below.refl _ _, rfl⟩
  case round =>
   obtain ⟨j, rfl, hj, bi, hp⟩ := hrel
   have BI := Lib.hid bi
   have HP := Lib.hid hp
   have PI := Lib.hid (PR.out.below bi)
   have K9I := Lib.hid (K9.out.below bi K9.out.lt)
   have KOI := Lib.hid (KO.out.below bi KO.out.lt)
   have j0 : (0 : Int) ≤ (j : Int) := by omega
   clear bi hp
   by_cases hlt : j < 2
   ·have j1 : (j : Int) < 2 := by omega
    have cj := tab_cell (f := fun o : ByteArray × Int => Value.string o.1) (l := ops 4) KOI.out rfl hlt
    have NX := Lib.hid (pick_next (T := T) (st := s1) (l := ops 4) hlt)
    have HE := Lib.hid (pick_here (T := T) (st := s1) (l := ops 4) hlt)
    have CC := Lib.hid (fun w (h : Blk w (W.heap.size + 1 + 1 + 1 + 1 + 1 + 1 + 1 + 1 + 1 + 1) #[.int .i64 1, .int .i64 2] 3) => tab_cell (f := fun o : ByteArray × Int => Value.int .i64 o.2) (l := ops 4) h rfl hlt)
    obtain ⟨⟨nm, op⟩, cc⟩ : ∃ q : ByteArray × Int, (ops 4)[j] = q := ⟨_, rfl⟩
    rw [cc] at cj NX HE CC
    clear cc
    dsimp only at cj NX HE CC
    have IS := Lib.hid (is_any PI.out nm)
    cases hb : is T nm s1 with
    | false =>
     have NX := Lib.hid (NX.out hb)
     rw [hb] at IS
     clear hb HE CC
     have wk1 : wrap64 ((j : Int) + 1) = ((j + 1 : Nat) : Int) := by unfold wrap64; omega
     go_wp2_with (go_at_call 36; refine IS.out.mono ?_; rintro e w3 ⟨rfl, b⟩; have BB := Lib.hid (BI.out.trans (b.mono BI.out.size)); clear b)
     refine ⟨⟨j + 1, by first | rfl | rw [wk1], hlt, BB.out, by rw [← NX.out]; exact HP.out⟩, by simp [intOf]; omega⟩
    | true =>
     have HE := Lib.hid (HE.out hb)
     rw [hb] at IS
     have hc := is_code hb
     have nx1 := is_next PI.out HGG.out nm hb
     have UP := Lib.hid nx1
     have hk := HK.out hc
     have inb := PR.out.inb
     obtain ⟨k, rfl⟩ : ∃ q, k = q + 1 := ⟨k - 1, by omega⟩
     have EM : Hid (levelL T nx 4 k (.e 14 (place T s1) 0 ⟨#[]⟩ op (X.two x (nx (up s1)).1) .nil) (nx (up s1)).2 = R) := Lib.hid (by
      have h1 := HM.out
      unfold PrM.levelL at h1
      rw [← HP.out, HE.out] at h1
      exact h1)
     have q0 : (0 : Int) ≤ (s1.i : Int) := by omega
     have q1 : (s1.i : Int) < 100000 := by have := PR.out.small; omega
     have HC := Lib.hid hc
     have HK1 := Lib.hid hk
     clear hb hc nx1 hk inb NX hj
     have HLT := Lib.hid hlt
     have jn : ((j : Int) == 2) = false := by rw [beq_eq_false_iff_ne]; omega
     clear hlt
     go_wp2_with (first
      |(go_at_call 36; refine IS.out.mono ?_; rintro e w20 ⟨rfl, b⟩; have BB := Lib.hid (BI.out.trans (b.mono BI.out.size)); have P20 := Lib.hid (PI.out.below b); have O20 := Lib.hid (Only.refl (fun b => b = g) w20); have K9_20 := Lib.hid (K9.out.below BB.out K9.out.lt); have K4_20 := Lib.hid (K4.out.below BB.out K4.out.lt); have KO_20 := Lib.hid (KO.out.below BB.out KO.out.lt); have KC_20 := Lib.hid (KC.out.below BB.out KC.out.lt); have Rx_20 := Lib.hid (mv_below BB.out RX.out); have HWR := Lib.hid P20.out.blk.lt; clear b)
      |(go_at_call 34; with_reducible refine (place_any P20.out).mono ?_; rintro e w21 ⟨rfl, sm⟩; have P21 := Lib.hid (P20.out.sm sm); have O21 := Lib.hid (O20.out.bel (sm.below _)); have K9_21 := Lib.hid (K9_20.out.sm sm); have K4_21 := Lib.hid (K4_20.out.sm sm); have KO_21 := Lib.hid (KO_20.out.sm sm); have KC_21 := Lib.hid (KC_20.out.sm sm); have Rx_21 := Lib.hid (mv_below (sm.below _) Rx_20.out); clear sm; obtain ⟨⟨d0, d1, d2, d3⟩, fr0, fr1, fr2, fr3⟩ := P21.out.blk.four; have oo := only_set (g := g) w21 (.int .i64 ((s1.i : Int) + 1)); have P22 := Lib.hid (PS.inc P21.out (UP.out)); have O22 := Lib.hid (O21.out.up oo); have K9_22 := Lib.hid (K9_21.out.only oo (by have := G9.out; omega)); have K4_22 := Lib.hid (K4_21.out.only oo (by have := G4.out; omega)); have KO_22 := Lib.hid (KO_21.out.only oo (by have := GO.out; omega)); have KC_22 := Lib.hid (KC_21.out.only oo (by have := GC.out; omega)); have Rx_22 := Lib.hid (mvA oo HW0.out Rx_21.out); clear oo)
      |(go_at_call 48; refine (LV.out _ (up s1) P22.out).mono ?_; rintro e w23 ⟨⟨u0, u1, u2, u3, u4, u5, u6, rfl, rd⟩, p, o, ii⟩; have P23 := Lib.hid (p); have O23 := Lib.hid (O22.out.up o); have K9_23 := Lib.hid (K9_22.out.only o (by have := G9.out; omega)); have K4_23 := Lib.hid (K4_22.out.only o (by have := G4.out; omega)); have KO_23 := Lib.hid (KO_22.out.only o (by have := GO.out; omega)); have KC_23 := Lib.hid (KC_22.out.only o (by have := GC.out; omega)); have Rx_23 := Lib.hid (mvA o HW0.out Rx_22.out); have Ry_23 := Lib.hid (wideA (Nat.le_trans HS1.out (Nat.le_of_lt K9_22.out.lt)) K9_22.out.lt rd); have Iy := Lib.hid ii; have NB23 := Lib.hid (Blk.new w23 Z7 39); clear p o rd ii)
      |(refine wpList_store_row rfl 39 (.tmp 12) (.tmp 86) rfl w23.heap.size #[u0, u1, u2, u3, u4, u5, u6] rfl rfl 39 _ NB23.out sizeE rfl (ones7 (Rd.one_cells _ _ Ry_23.out)) ?_; obtain ⟨w24, hw, bb, K12_24, ss⟩ := box7 w23 #[u0, u1, u2, u3, u4, u5, u6] Z7; rw [← hw]; clear hw NB23; have G12 := Lib.hid (show g < w23.heap.size from Nat.lt_of_lt_of_le HWR.out O23.out.size); have P24 := Lib.hid (P23.out.only (Only.of_below (F := fun _ => False) bb.out) (fun _ f => f.elim)); have O24 := Lib.hid (O23.out.bel bb.out); have K9_24 := Lib.hid (K9_23.out.below bb.out K9_23.out.lt); have K4_24 := Lib.hid (K4_23.out.below bb.out K4_23.out.lt); have KO_24 := Lib.hid (KO_23.out.below bb.out KO_23.out.lt); have KC_24 := Lib.hid (KC_23.out.below bb.out KC_23.out.lt); have Rx_24 := Lib.hid (mv_below bb.out Rx_23.out); have Ry_24 := Lib.hid (mv_below bb.out Ry_23.out); clear bb ss; obtain ⟨⟨a0, a1, a2, a3, a4, a5, a6⟩, f0, f1, f2, f3, f4, f5, f6⟩ := K9_24.out.seven; obtain ⟨⟨b0, b1, b2, b3, b4, b5, b6⟩, -⟩ := K12_24.out.seven; have hcc := CC.out _ KC_24.out))

     have KD := Lib.hid (blk_al (.cells #[y0, y1, y2, y3, y4, y5, y6, u0, u1, u2, u3, u4, u5, u6] 39) K9_24.out)
     have hcd := keep_ad (.cells #[y0, y1, y2, y3, y4, y5, y6, u0, u1, u2, u3, u4, u5, u6] 39) hcc
     obtain ⟨⟨a0', a1', a2', a3', a4', a5', a6'⟩, f0', f1', f2', f3', f4', f5', f6'⟩ := KD.out.seven
     go_region
     obtain ⟨w25, hw25, K25, O25⟩ := set7 KD.out (.int .i64 14) (.int .i64 (place T s1)) (.int .i64 0) (.string ⟨#[]⟩) (.int .i64 op) (.slice (some ⟨w24.heap.size, 0, none⟩) 2 2) (.slice none 0 0)
     rw [← hw25]
     clear hw25 a0 a1 a2 a3 a4 a5 a6 a0' a1' a2' a3' a4' a5' a6' f0 f1 f2 f3 f4 f5 f6 f0' f1' f2' f3' f4' f5' f6' hcd hcc b0 b1 b2 b3 b4 b5 b6
     go_wp2_with fail
     have hsz := H13.out
     have PE := (P24.out.alloc (.cells #[y0, y1, y2, y3, y4, y5, y6, u0, u1, u2, u3, u4, u5, u6] 39)).only O25.out (fun i e => .inl (by subst e; exact G9.out))
     refine ⟨⟨k, (nx (up s1)).2, .e 14 (place T s1) 0 ⟨#[]⟩ op (X.two x (nx (up s1)).1) .nil, _, _, _, _, _, _, _, PE, (((OW.out.bel BB.out).up O24.out).alloc (.cells #[y0, y1, y2, y3, y4, y5, y6, u0, u1, u2, u3, u4, u5, u6] 39)).trans O25.out (fun n e => .inr (by omega)), K25.out, (blk_al _ K4_24.out).only O25.out (by omega), (blk_al _ KO_24.out).only O25.out (by omega), (blk_al _ KC_24.out).only O25.out (by omega), mvA7 O25.out (binA w24 14 (place T s1) op Rx_24.out Ry_24.out ⟨Nat.le_trans HS1.out (Nat.le_of_lt K9_24.out.lt), (by have := K9_24.out.lt; omega)⟩), EM.out, ?_, ?_⟩, ?_⟩
     ·intro _; have h1 := HK1.out; have h2 := Iy.out; rw [up_i] at h2; omega
     ·have h1 := HI.out; have h2 := Iy.out; rw [up_i] at h2; omega
     ·rw [PE.mB, MB.out, if_pos HC.out]
      have h2 := Iy.out; rw [up_i] at h2
      have := PR.out.inb
      split <;> omega
   ·obtain rfl : j = 2 := by omega
    have ER : Hid (R = (x, s1)) := Lib.hid (by
     rw [← HM.out]
     cases k with
     | zero => rfl
     | succ k => unfold PrM.levelL; rw [← HP.out, pick_end (by decide)])
    have K4I := Lib.hid (K4.out.below BI.out K4.out.lt)
    have RXI := Lib.hid (loA (mv_below BI.out RX.out))
    have OI := Lib.hid (OW.out.bel BI.out)
    have OB := Lib.hid ((B0.out).size)
    obtain ⟨⟨a0, a1, a2, a3, a4, a5, a6⟩, -⟩ := K9I.out.seven
    go_wp2_with (first
     |(refine wpList_store_row rfl 39 (.tmp 6) (.tmp 72) rfl W.heap.size #[y0, y1, y2, y3, y4, y5, y6] rfl rfl 39 _ K4I.out sizeE rfl (ones7 (Rd.one_cells _ _ RXI.out)) ?_)
     |(refine wp_store_row 39 (.tmp 6) (.tmp 72) rfl W.heap.size #[y0, y1, y2, y3, y4, y5, y6] rfl rfl 39 _ K4I.out sizeE rfl (ones7 (Rd.one_cells _ _ RXI.out)) ?_))
    try simp only [Exit.inBlock, Exit.then]
    refine bodyPost_ret (res7 rfl _ _ W.heap.size _ _ _ _ _ _ _ rfl (blk_row K4I.out)) rfl ?_
    have er := ER.out
    rw [er]
    exact RE.end_ HG.out (Nat.le_refl _) (al_lt W (.cells Z7 39)) RXI.out PI.out OI.out HI.out
end
end Go.Proofs.Yteakhlnnepjhpaa
/- The document's parser: level's own work at 5 (printed by genpr6.py). -/
namespace Go.Proofs.Yteakhlnnepjhpaa
open Go.RowKit PrM
set_option linter.unusedVariables false
set_option linter.unusedSimpArgs false
section
variable {F g tg c : Nat} {T : List LxM.T}
set_option maxRecDepth 20000 in
set_option maxHeartbeats 16000000 in
theorem level_at5 (hG : PrM.Good T) (hF : OkF g tg c T F) (W : World) (st : St) (d : Nat) (h : PS W g tg c T st) (hd : d ≤ 100) (h0 : st.code = 0) (hm : 100 * (101 - d) + 10 ≤ F + 1) : Calls Try.prog 48 #[ptr g, .int .i64 5, .int .i64 (d : Int)] W (RE W g tg c T st ((fs T (F + 1)).level 5 d st)) := by
 have e1 : (fs T (F + 1)).level 5 (d : Int) st = levelL T ((fs T F).level 6 (d : Int)) 5 T.length ((fs T F).level 6 (d : Int) st).1 ((fs T F).level 6 (d : Int) st).2 := by
  show levelS T (fs T F) 5 d st = _
  unfold levelS
  rw [if_neg (by rw [h0]; decide), if_neg (by decide), if_neg (by decide)]
 rw [e1]
 obtain ⟨R, eR⟩ : ∃ R, levelL T ((fs T F).level 6 (d : Int)) 5 T.length ((fs T F).level 6 (d : Int) st).1 ((fs T F).level 6 (d : Int) st).2 = R := ⟨_, rfl⟩
 rw [eR]
 have HR := Lib.hid eR
 have B0 := Lib.hid (Only.of_below (F := fun b => b = g) ((Below.refl W.heap.size W).alloc (Nat.le_refl _) (.cells Z7 39)))
 have K4_0 := Lib.hid (Blk.new W Z7 39)
 have HG := Lib.hid h.blk.lt
 have G4 := HG
 have HW0 : Hid (g < (W.alloc (.cells Z7 39)).heap.size) := Nat.lt_trans HG.out (al_lt W _)
 have P0 := Lib.hid (h.alloc (.cells Z7 39))
 have O0 := Lib.hid (Only.refl (fun b => b = g) (W.alloc (.cells Z7 39)))
 have i0 : (0 : Int) ≤ (d : Int) := by omega
 have i1 : (d : Int) ≤ 100 := by omega
 have HGG := Lib.hid hG
 have LV := Lib.hid (fun W1 st1 (h1 : PS W1 g tg c T st1) => hF.level W1 st1 6 d h1 (by omega) (by omega) (fun _ => hd) (by omega))
 generalize (fs T F).level 6 (d : Int) = nx at *
 have PT := Lib.hid (h.only (Only.of_below (F := fun _ => False) (tab_below W)) (fun _ f => f.elim))
 have OT := Lib.hid (Only.of_below (F := fun b => b = g) (tab_below W))
 obtain ⟨⟨d0, d1, d2, d3⟩, -⟩ := P0.out.blk.four
 rw [h0] at d2
 clear hF hm e1 eR hG h h0
 go_enter Try.func48, Try.ntmps48
 have HBO := Lib.hid (show g < W.heap.size + 1 + 1 + 1 + 1 + 1 by have := HG.out; omega)
 have HBC := Lib.hid (show g < W.heap.size + 1 + 1 + 1 + 1 + 1 + 1 + 1 + 1 + 1 + 1 + 1 by have := HG.out; omega)
 go_wp2_with (first
  |(go_at_call 48; refine (LV.out _ _ PT.out).mono ?_; rintro e w1 ⟨⟨v0, v1, v2, v3, v4, v5, v6, rfl, rd⟩, p, o, ii⟩; have P1 := Lib.hid p; have O1 := Lib.hid (OT.out.up o); have RX := Lib.hid rd; have II := Lib.hid ii; have KR1 := Lib.hid ((tab_res W).only o (by have := HG.out; omega)); have KO1 := Lib.hid ((tab_o5 W).only o (by have := HG.out; omega)); have KC1 := Lib.hid ((tab_c5 W).only o (by have := HG.out; omega)); have SB := Lib.hid o.size; have NB := Lib.hid (Blk.new w1 Z7 39); clear p o rd ii d0 d1 d2 d3)
  |(refine wpList_store_row rfl 39 (.tmp 9) (.tmp 52) rfl w1.heap.size #[v0, v1, v2, v3, v4, v5, v6] rfl rfl 39 _ NB.out sizeE rfl (ones7 (Rd.one_cells _ _ RX.out)) ?_; obtain ⟨w2, hw, bb, K2, ss⟩ := box7 w1 #[v0, v1, v2, v3, v4, v5, v6] Z7; rw [← hw]; clear hw NB))
 have HTW := Lib.hid (show (W.alloc (.cells Z7 39)).heap.size ≤ (TabW W).heap.size from tab_size W)
 have HS1 : Hid ((W.alloc (.cells Z7 39)).heap.size ≤ w1.heap.size) := Lib.hid (Nat.le_trans HTW.out SB.out)
 have H13 : Hid (W.heap.size + 13 ≤ w1.heap.size) := Lib.hid (by have := SB.out; simp only [World.size_alloc] at this; omega)
 have G9 : Hid (g < w1.heap.size) := Lib.hid (Nat.lt_of_lt_of_le HW0.out HS1.out)
 have GO := HBO
 have GC := HBC
 have PS2 := Lib.hid (P1.out.only (Only.of_below (F := fun _ => False) bb.out) (fun _ f => f.elim))
 have OS2 := Lib.hid (O1.out.bel bb.out)
 have RX2 := Lib.hid (firstA (w0 := W.alloc (.cells Z7 39)) bb.out HTW.out RX.out)
 have KR2 := Lib.hid (KR1.out.below bb.out KR1.out.lt)
 have KO2 := Lib.hid (KO1.out.below bb.out KO1.out.lt)
 have KC2 := Lib.hid (KC1.out.below bb.out KC1.out.lt)
 try simp only [Act.put]
 go_loopw [10] (fun _ wr => ∃ (k : Nat) (s1 : St) (x : X) (v0 v1 v2 v3 v4 v5 v6 : Value), PS wr g tg c T s1 ∧ Only (fun b => b = g) W wr ∧ Blk wr w1.heap.size #[v0, v1, v2, v3, v4, v5, v6] 39 ∧ Blk wr W.heap.size Z7 39 ∧ Blk wr (W.heap.size + 1 + 1 + 1 + 1 + 1) #[.string ⟨#[42]⟩, .string ⟨#[47, 47]⟩, .string ⟨#[37]⟩] 9 ∧ Blk wr (W.heap.size + 1 + 1 + 1 + 1 + 1 + 1 + 1 + 1 + 1 + 1 + 1) #[.int .i64 3, .int .i64 4, .int .i64 5] 3 ∧ (Rd wr (PA (W.alloc (.cells Z7 39)) w1.heap.size) x).cells #[v0, v1, v2, v3, v4, v5, v6] ∧ levelL T nx 5 k x s1 = R ∧ (s1.code = 0 → T.length ≤ k + s1.i) ∧ st.i ≤ s1.i) (fun _ wr => mB T.length g wr)
 case atStart => exact ⟨T.length, _, _, _, _, _, _, _, _, _, PS2.out, OS2.out, K2.out, KR2.out, KO2.out, KC2.out, RX2.out, HR.out, fun _ => Nat.le_add_right _ _, II.out⟩
 case round =>
  obtain ⟨k, s1, x, y0, y1, y2, y3, y4, y5, y6, p0, ow, k9, k4, ko, kc, rx, hM, hk, hi⟩ := hrel
  have PR := Lib.hid p0
  have OW := Lib.hid ow
  have K9 := Lib.hid k9
  have K4 := Lib.hid k4
  have KO := Lib.hid ko
  have KC := Lib.hid kc
  have RX := Lib.hid rx
  have HM := Lib.hid hM
  have HK := Lib.hid hk
  have HI := Lib.hid hi
  have MB := Lib.hid (p0.mB (N := T.length))
  clear p0 ow k9 k4 ko kc rx hM hk hi P1 O1 RX2 KR1 KO1 KC1 PS2 OS2 KR2 KO2 KC2 K2 II SB P0
  obtain ⟨wq, hwq⟩ : ∃ wq, wq = wr := ⟨_, rfl⟩
  subst hwq
  go_wp2_with fail
  go_loopw [10] (fun i wi => ∃ j : Nat, i = .int .i64 (j : Int) ∧ j ≤ 3 ∧ Below wq.heap.size wq wi ∧ pick T s1 ((ops 5).drop j) = pick T s1 (ops 5)) (fun i _ => 3 - (intOf i).toNat)
  case atStart => exact ⟨0, rfl, Nat.zero_le _, Below.refl _ _, rfl⟩
  case round =>
   obtain ⟨j, rfl, hj, bi, hp⟩ := hrel
   have BI := Lib.hid bi
   have HP := Lib.hid hp
   have PI := Lib.hid (PR.out.below bi)
   have K9I := Lib.hid (K9.out.below bi K9.out.lt)
   have KOI := Lib.hid (KO.out.below bi KO.out.lt)
   have j0 : (0 : Int) ≤ (j : Int) := by omega
   clear bi hp
   by_cases hlt : j < 3
   ·have j1 : (j : Int) < 3 := by omega
    have cj := tab_cell (f := fun o : ByteArray × Int => Value.string o.1) (l := ops 5) KOI.out rfl hlt
    have NX := Lib.hid (pick_next (T := T) (st := s1) (l := ops 5) hlt)
    have HE := Lib.hid (pick_here (T := T) (st := s1) (l := ops 5) hlt)
    have CC := Lib.hid (fun w (h : Blk w (W.heap.size + 1 + 1 + 1 + 1 + 1 + 1 + 1 + 1 + 1 + 1 + 1) #[.int .i64 3, .int .i64 4, .int .i64 5] 3) => tab_cell (f := fun o : ByteArray × Int => Value.int .i64 o.2) (l := ops 5) h rfl hlt)
    obtain ⟨⟨nm, op⟩, cc⟩ : ∃ q : ByteArray × Int, (ops 5)[j] = q := ⟨_, rfl⟩
    rw [cc] at cj NX HE CC
    clear cc
    dsimp only at cj NX HE CC
    have IS := Lib.hid (is_any PI.out nm)
    cases hb : is T nm s1 with
    | false =>
     have NX := Lib.hid (NX.out hb)
     rw [hb] at IS
     clear hb HE CC
     have wk1 : wrap64 ((j : Int) + 1) = ((j + 1 : Nat) : Int) := by unfold wrap64; omega
     go_wp2_with (go_at_call 36; refine IS.out.mono ?_; rintro e w3 ⟨rfl, b⟩; have BB := Lib.hid (BI.out.trans (b.mono BI.out.size)); clear b)
     refine ⟨⟨j + 1, by first | rfl | rw [wk1], hlt, BB.out, by rw [← NX.out]; exact HP.out⟩, by simp [intOf]; omega⟩
    | true =>
     have HE := Lib.hid (HE.out hb)
     rw [hb] at IS
     have hc := is_code hb
     have nx1 := is_next PI.out HGG.out nm hb
     have UP := Lib.hid nx1
     have hk := HK.out hc
     have inb := PR.out.inb
     obtain ⟨k, rfl⟩ : ∃ q, k = q + 1 := ⟨k - 1, by omega⟩
     have EM : Hid (levelL T nx 5 k (.e 14 (place T s1) 0 ⟨#[]⟩ op (X.two x (nx (up s1)).1) .nil) (nx (up s1)).2 = R) := Lib.hid (by
      have h1 := HM.out
      unfold PrM.levelL at h1
      rw [← HP.out, HE.out] at h1
      exact h1)
     have q0 : (0 : Int) ≤ (s1.i : Int) := by omega
     have q1 : (s1.i : Int) < 100000 := by have := PR.out.small; omega
     have HC := Lib.hid hc
     have HK1 := Lib.hid hk
     clear hb hc nx1 hk inb NX hj
     have HLT := Lib.hid hlt
     have jn : ((j : Int) == 3) = false := by rw [beq_eq_false_iff_ne]; omega
     clear hlt
     go_wp2_with (first
      |(go_at_call 36; refine IS.out.mono ?_; rintro e w20 ⟨rfl, b⟩; have BB := Lib.hid (BI.out.trans (b.mono BI.out.size)); have P20 := Lib.hid (PI.out.below b); have O20 := Lib.hid (Only.refl (fun b => b = g) w20); have K9_20 := Lib.hid (K9.out.below BB.out K9.out.lt); have K4_20 := Lib.hid (K4.out.below BB.out K4.out.lt); have KO_20 := Lib.hid (KO.out.below BB.out KO.out.lt); have KC_20 := Lib.hid (KC.out.below BB.out KC.out.lt); have Rx_20 := Lib.hid (mv_below BB.out RX.out); have HWR := Lib.hid P20.out.blk.lt; clear b)
      |(go_at_call 34; with_reducible refine (place_any P20.out).mono ?_; rintro e w21 ⟨rfl, sm⟩; have P21 := Lib.hid (P20.out.sm sm); have O21 := Lib.hid (O20.out.bel (sm.below _)); have K9_21 := Lib.hid (K9_20.out.sm sm); have K4_21 := Lib.hid (K4_20.out.sm sm); have KO_21 := Lib.hid (KO_20.out.sm sm); have KC_21 := Lib.hid (KC_20.out.sm sm); have Rx_21 := Lib.hid (mv_below (sm.below _) Rx_20.out); clear sm; obtain ⟨⟨d0, d1, d2, d3⟩, fr0, fr1, fr2, fr3⟩ := P21.out.blk.four; have oo := only_set (g := g) w21 (.int .i64 ((s1.i : Int) + 1)); have P22 := Lib.hid (PS.inc P21.out (UP.out)); have O22 := Lib.hid (O21.out.up oo); have K9_22 := Lib.hid (K9_21.out.only oo (by have := G9.out; omega)); have K4_22 := Lib.hid (K4_21.out.only oo (by have := G4.out; omega)); have KO_22 := Lib.hid (KO_21.out.only oo (by have := GO.out; omega)); have KC_22 := Lib.hid (KC_21.out.only oo (by have := GC.out; omega)); have Rx_22 := Lib.hid (mvA oo HW0.out Rx_21.out); clear oo)
      |(go_at_call 48; refine (LV.out _ (up s1) P22.out).mono ?_; rintro e w23 ⟨⟨u0, u1, u2, u3, u4, u5, u6, rfl, rd⟩, p, o, ii⟩; have P23 := Lib.hid (p); have O23 := Lib.hid (O22.out.up o); have K9_23 := Lib.hid (K9_22.out.only o (by have := G9.out; omega)); have K4_23 := Lib.hid (K4_22.out.only o (by have := G4.out; omega)); have KO_23 := Lib.hid (KO_22.out.only o (by have := GO.out; omega)); have KC_23 := Lib.hid (KC_22.out.only o (by have := GC.out; omega)); have Rx_23 := Lib.hid (mvA o HW0.out Rx_22.out); have Ry_23 := Lib.hid (wideA (Nat.le_trans HS1.out (Nat.le_of_lt K9_22.out.lt)) K9_22.out.lt rd); have Iy := Lib.hid ii; have NB23 := Lib.hid (Blk.new w23 Z7 39); clear p o rd ii)
      |(refine wpList_store_row rfl 39 (.tmp 12) (.tmp 86) rfl w23.heap.size #[u0, u1, u2, u3, u4, u5, u6] rfl rfl 39 _ NB23.out sizeE rfl (ones7 (Rd.one_cells _ _ Ry_23.out)) ?_; obtain ⟨w24, hw, bb, K12_24, ss⟩ := box7 w23 #[u0, u1, u2, u3, u4, u5, u6] Z7; rw [← hw]; clear hw NB23; have G12 := Lib.hid (show g < w23.heap.size from Nat.lt_of_lt_of_le HWR.out O23.out.size); have P24 := Lib.hid (P23.out.only (Only.of_below (F := fun _ => False) bb.out) (fun _ f => f.elim)); have O24 := Lib.hid (O23.out.bel bb.out); have K9_24 := Lib.hid (K9_23.out.below bb.out K9_23.out.lt); have K4_24 := Lib.hid (K4_23.out.below bb.out K4_23.out.lt); have KO_24 := Lib.hid (KO_23.out.below bb.out KO_23.out.lt); have KC_24 := Lib.hid (KC_23.out.below bb.out KC_23.out.lt); have Rx_24 := Lib.hid (mv_below bb.out Rx_23.out); have Ry_24 := Lib.hid (mv_below bb.out Ry_23.out); clear bb ss; obtain ⟨⟨a0, a1, a2, a3, a4, a5, a6⟩, f0, f1, f2, f3, f4, f5, f6⟩ := K9_24.out.seven; obtain ⟨⟨b0, b1, b2, b3, b4, b5, b6⟩, -⟩ := K12_24.out.seven; have hcc := CC.out _ KC_24.out))

     have KD := Lib.hid (blk_al (.cells #[y0, y1, y2, y3, y4, y5, y6, u0, u1, u2, u3, u4, u5, u6] 39) K9_24.out)
     have hcd := keep_ad (.cells #[y0, y1, y2, y3, y4, y5, y6, u0, u1, u2, u3, u4, u5, u6] 39) hcc
     obtain ⟨⟨a0', a1', a2', a3', a4', a5', a6'⟩, f0', f1', f2', f3', f4', f5', f6'⟩ := KD.out.seven
     go_region
     obtain ⟨w25, hw25, K25, O25⟩ := set7 KD.out (.int .i64 14) (.int .i64 (place T s1)) (.int .i64 0) (.string ⟨#[]⟩) (.int .i64 op) (.slice (some ⟨w24.heap.size, 0, none⟩) 2 2) (.slice none 0 0)
     rw [← hw25]
     clear hw25 a0 a1 a2 a3 a4 a5 a6 a0' a1' a2' a3' a4' a5' a6' f0 f1 f2 f3 f4 f5 f6 f0' f1' f2' f3' f4' f5' f6' hcd hcc b0 b1 b2 b3 b4 b5 b6
     go_wp2_with fail
     have hsz := H13.out
     have PE := (P24.out.alloc (.cells #[y0, y1, y2, y3, y4, y5, y6, u0, u1, u2, u3, u4, u5, u6] 39)).only O25.out (fun i e => .inl (by subst e; exact G9.out))
     refine ⟨⟨k, (nx (up s1)).2, .e 14 (place T s1) 0 ⟨#[]⟩ op (X.two x (nx (up s1)).1) .nil, _, _, _, _, _, _, _, PE, (((OW.out.bel BB.out).up O24.out).alloc (.cells #[y0, y1, y2, y3, y4, y5, y6, u0, u1, u2, u3, u4, u5, u6] 39)).trans O25.out (fun n e => .inr (by omega)), K25.out, (blk_al _ K4_24.out).only O25.out (by omega), (blk_al _ KO_24.out).only O25.out (by omega), (blk_al _ KC_24.out).only O25.out (by omega), mvA7 O25.out (binA w24 14 (place T s1) op Rx_24.out Ry_24.out ⟨Nat.le_trans HS1.out (Nat.le_of_lt K9_24.out.lt), (by have := K9_24.out.lt; omega)⟩), EM.out, ?_, ?_⟩, ?_⟩
     ·intro _; have h1 := HK1.out; have h2 := Iy.out; rw [up_i] at h2; omega
     ·have h1 := HI.out; have h2 := Iy.out; rw [up_i] at h2; omega
     ·rw [PE.mB, MB.out, if_pos HC.out]
      have h2 := Iy.out; rw [up_i] at h2
      have := PR.out.inb
      split <;> omega
   ·obtain rfl : j = 3 := by omega
    have ER : Hid (R = (x, s1)) := Lib.hid (by
     rw [← HM.out]
     cases k with
     | zero => rfl
     | succ k => unfold PrM.levelL; rw [← HP.out, pick_end (by decide)])
    have K4I := Lib.hid (K4.out.below BI.out K4.out.lt)
    have RXI := Lib.hid (loA (mv_below BI.out RX.out))
    have OI := Lib.hid (OW.out.bel BI.out)
    have OB := Lib.hid ((B0.out).size)
    obtain ⟨⟨a0, a1, a2, a3, a4, a5, a6⟩, -⟩ := K9I.out.seven
    go_wp2_with (first
     |(refine wpList_store_row rfl 39 (.tmp 6) (.tmp 72) rfl W.heap.size #[y0, y1, y2, y3, y4, y5, y6] rfl rfl 39 _ K4I.out sizeE rfl (ones7 (Rd.one_cells _ _ RXI.out)) ?_)
     |(refine wp_store_row 39 (.tmp 6) (.tmp 72) rfl W.heap.size #[y0, y1, y2, y3, y4, y5, y6] rfl rfl 39 _ K4I.out sizeE rfl (ones7 (Rd.one_cells _ _ RXI.out)) ?_))
    try simp only [Exit.inBlock, Exit.then]
    refine bodyPost_ret (res7 rfl _ _ W.heap.size _ _ _ _ _ _ _ rfl (blk_row K4I.out)) rfl ?_
    have er := ER.out
    rw [er]
    exact RE.end_ HG.out (Nat.le_refl _) (al_lt W (.cells Z7 39)) RXI.out PI.out OI.out HI.out
end
end Go.Proofs.Yteakhlnnepjhpaa
/- The document's parser: Script, once its functions do what the plain ones say at every depth of calls. -/
namespace Go.Proofs.Yteakhlnnepjhpaa
open Go.RowKit PrM
set_option linter.unusedVariables false
set_option linter.unusedSimpArgs false
theorem trow_at {w : World} {base : Nat} {v : Value} {l : List LxM.T} (h : TRow w base v l) (hne : 0 < l.length) : ∃ g cap, v = .slice (some ⟨g, 0, none⟩) l.length cap ∧ base ≤ g ∧ g < w.heap.size ∧ l.length ≤ cap ∧ ∀ i u, (tcells l)[i]? = some u → w.cell? ⟨g, i, none⟩ = some u := by
 have h' := h
 unfold TRow at h'
 rcases h'.2 with ⟨rfl, h0⟩ | ⟨g, cap, cur, rfl, hg, hb, hc, _, hs, ht⟩
 ·omega
 ·exact ⟨g, cap, rfl, hg, (Array.getElem?_eq_some_iff.1 hb).1, hc, fun i u hu => by
   have := h'.cells (g := g) rfl i u hu
   rwa [show (⟨g, 0, none⟩ : Addr).add i = ⟨g, i, none⟩ by unfold Addr.add; split <;> simp_all] at this⟩
theorem ps_start {w1 : World} {tg c : Nat} {T : List LxM.T} (t1 : tg < w1.heap.size) (t2 : T.length ≤ c) (t3 : ∀ i u, (tcells T)[i]? = some u → w1.cell? ⟨tg, i, none⟩ = some u) (hp : 0 < T.length) (hn : T.length ≤ 2001) : PS (w1.alloc (.cells #[.slice (some ⟨tg, 0, none⟩) T.length c, .int .i64 0, .int .i64 0, .int .i64 0] 48)) w1.heap.size tg c T ⟨0, 0, 0⟩ :=
 ⟨Blk.new w1 _ _, fun i u hu => keep_al _ (t3 i u hu), t1, hp, t2, by omega⟩
theorem sl_wide {w : World} {P Q : Nat → Prop} {x : X} {z : Nat} {v : Value} (hQ : ∀ k, P k → Q k) (h : Sl x.len (Rd w P x).row z v) : Sl x.len (Rd w.drew Q x).row z v :=
 h.imp (Rd.move (w := w) (w' := w.drew) ⟨Nat.le_refl _, fun _ _ _ => rfl, fun k hk _ => hQ k hk⟩ x).2.1
theorem al_lt' (W : World) (o : Obj) : W.heap.size < (W.alloc o).heap.size := by show _ < (W.heap.push _).size; simp
theorem block_zero {W : World} {g tg c : Nat} {T : List LxM.T} (h : Calls Try.prog 16 #[ptr g, .int .i64 ((0 : Nat) : Int)] W (RB W g tg c T ⟨0, 0, 0⟩ ((fs T 12000).block ((0 : Nat) : Int) ⟨0, 0, 0⟩))) : Calls Try.prog 16 #[ptr g, .int .i64 0] W (RB W g tg c T ⟨0, 0, 0⟩ ((fs T 12000).block 0 ⟨0, 0, 0⟩)) := h
/-- What Script answers. -/
def ScR (F : LxM.Ans) (W : World) (e : Ending) (W' : World) : Prop :=
 (match F with
 | .bad q => e = .returned (.tuple #[.slice none 0 0, .int .i64 14, .int .i64 (q : Int)])
 | .ok T => ((script T).2.code = 0 → ∃ v, e = .returned (.tuple #[v, .int .i64 0, .int .i64 0]) ∧ Sl (script T).1.len (Rd W' (Lo W) (script T).1).row 5 v) ∧ ((script T).2.code ≠ 0 → e = .returned (.tuple #[.slice none 0 0, .int .i64 (script T).2.code, .int .i64 (script T).2.at_]))) ∧ Below W.heap.size W W'
set_option maxRecDepth 20000 in
set_option maxHeartbeats 8000000 in
theorem rscript_any (hOK : ∀ g tg c T F, PrM.Good T → OkF g tg c T F) (W : World) (s : ByteArray) (hs : s.size ≤ 2000) :
  Calls Try.prog 6 #[.string s] W (ScR (LxM.lex s.data.toList) W) := by
 have RL := Lib.hid (rlex_any W s hs)
 have GD := Lib.hid (fun a => lex_good (l := s.data.toList) (a := a))
 have CT := Lib.hid (fun a => lex_count (l := s.data.toList) (a := a))
 have HS := Lib.hid hs
 have HOK := Lib.hid hOK
 obtain ⟨F, hF⟩ : ∃ F, LxM.lex s.data.toList = F := ⟨_, rfl⟩
 rw [hF] at RL ⊢
 have HF := Lib.hid hF
 unfold LRes at RL
 clear hs hF hOK
 cases F with
 | bad q =>
  dsimp only at RL
  go_enter Try.func6, Try.ntmps6
  go_wp2_with (go_at_call 15; refine RL.out.mono ?_; rintro e w1 ⟨⟨tv, err, p, rfl, rfl, rfl, rfl⟩, b⟩; have B1 := Lib.hid b; clear b)
  go_ret3
  exact ⟨rfl, B1.out⟩
 | ok T =>
  dsimp only at RL
  have hG := GD.out T HF.out
  have hn : T.length ≤ 2001 := by
   have := CT.out T HF.out
   have := HS.out
   have : s.data.toList.length = s.size := by simp
   omega
  have HG := Lib.hid hG
  have HN := Lib.hid hn
  have HP := Lib.hid hG.1
  clear hG hn
  have hsc : script T = (((fs T 12000).block 0 ⟨0, 0, 0⟩).1, if ((fs T 12000).block 0 ⟨0, 0, 0⟩).2.code = 0 ∧ (PrM.tk T ((fs T 12000).block 0 ⟨0, 0, 0⟩).2).kind ≠ 0 then PrM.fail T 14 ((fs T 12000).block 0 ⟨0, 0, 0⟩).2 else ((fs T 12000).block 0 ⟨0, 0, 0⟩).2) := rfl
  have SC := Lib.hid hsc
  have i0 : (0 : Int) ≤ (((fs T 12000).block 0 ⟨0, 0, 0⟩).2.i : Int) := by omega
  clear hsc
  by_cases q : ((fs T 12000).block 0 ⟨0, 0, 0⟩).2.code = 0
  ·have q0 : (((fs T 12000).block 0 ⟨0, 0, 0⟩).2.code == 0) = true := by rw [q]; rfl
   have q1 : (((fs T 12000).block 0 ⟨0, 0, 0⟩).2.code != 0) = false := by rw [q]; rfl
   by_cases k : (PrM.tk T ((fs T 12000).block 0 ⟨0, 0, 0⟩).2).kind = 0
   ·have k0 : ((PrM.tk T ((fs T 12000).block 0 ⟨0, 0, 0⟩).2).kind != 0) = false := by rw [k]; rfl
    have E2 : Hid (script T = (((fs T 12000).block 0 ⟨0, 0, 0⟩).1, ((fs T 12000).block 0 ⟨0, 0, 0⟩).2)) := Lib.hid (by rw [SC.out, if_neg (fun x => x.2 k)])
    have HQ := Lib.hid q
    clear q k
    go_enter Try.func6, Try.ntmps6
    go_wp2_with (first
     |(go_at_call 15; refine RL.out.mono ?_; rintro e w1 ⟨⟨tv, err, p, rfl, rfl, rfl, row⟩, b⟩; have B1 := Lib.hid b; obtain ⟨tg, c, rfl, t0, t1, t2, t3⟩ := trow_at row HP.out; have PS0 := Lib.hid (ps_start t1 t2 t3 HP.out HN.out); have BLK := Lib.hid (block_zero ((HOK.out w1.heap.size tg c T 12000 HG.out).block _ ⟨0, 0, 0⟩ 0 PS0.out (by omega) (by omega))); have BA := Lib.hid (Nat.le_trans b.size (Nat.le_refl _)); clear b row t0 t1 t2 t3)
     |(go_at_call 16; refine BLK.out.mono ?_; rintro e w2 ⟨⟨v, rfl, sl⟩, p2, o2, ii⟩; have P2 := Lib.hid p2; have SL := Lib.hid sl; have B2 := Lib.hid (B1.out.trans (((Below.refl W.heap.size w1).alloc B1.out.size (.cells #[.slice (some ⟨tg, 0, none⟩) T.length c, .int .i64 0, .int .i64 0, .int .i64 0] 48)).trans (o2.below (B := W.heap.size) (fun n e => by have := B1.out.size; omega) (Nat.le_trans B1.out.size (Nat.le_of_lt (al_lt' w1 _)))))); have PD := Lib.hid (P2.out.sm (Sm.drewn w2)); clear p2 o2 sl ii; obtain ⟨⟨c0, c1, c2, c3⟩, f0, f1, f2, f3⟩ := P2.out.blk.four; obtain ⟨t0, t1, t2, t3⟩ := P2.out.tok; have i1 : (((fs T 12000).block 0 ⟨0, 0, 0⟩).2.i : Int) < (T.length : Int) := (by have := P2.out.inb; omega); have jc : (T.length : Int) ≤ (c : Int) := (by have := P2.out.cap; omega)))
    go_region
    go_wp2_with fail
    go_ret3
    have e2 := E2.out
    refine ⟨⟨fun _ => ⟨v, rfl, ?_⟩, fun h => absurd (by rw [e2]; exact HQ.out) h⟩, B2.out.drew⟩
    rw [e2]
    exact sl_wide (fun k hk => Nat.le_trans B1.out.size (Nat.le_trans (Nat.le_of_lt (al_lt' w1 _)) hk)) SL.out
   ·have k0 : ((PrM.tk T ((fs T 12000).block 0 ⟨0, 0, 0⟩).2).kind != 0) = true := by simpa using k
    have E2 : Hid (script T = (((fs T 12000).block 0 ⟨0, 0, 0⟩).1, ⟨((fs T 12000).block 0 ⟨0, 0, 0⟩).2.i, 14, place T ((fs T 12000).block 0 ⟨0, 0, 0⟩).2⟩)) := Lib.hid (by rw [SC.out, if_pos ⟨q, k⟩]; unfold PrM.fail; rw [if_pos q])
    have EF : Hid (PrM.fail T 14 ((fs T 12000).block 0 ⟨0, 0, 0⟩).2 = ⟨((fs T 12000).block 0 ⟨0, 0, 0⟩).2.i, 14, place T ((fs T 12000).block 0 ⟨0, 0, 0⟩).2⟩) := Lib.hid (by unfold PrM.fail; rw [if_pos q])
    clear q k
    go_enter Try.func6, Try.ntmps6
    go_wp2_with (first
     |(go_at_call 15; refine RL.out.mono ?_; rintro e w1 ⟨⟨tv, err, p, rfl, rfl, rfl, row⟩, b⟩; have B1 := Lib.hid b; obtain ⟨tg, c, rfl, t0, t1, t2, t3⟩ := trow_at row HP.out; have PS0 := Lib.hid (ps_start t1 t2 t3 HP.out HN.out); have BLK := Lib.hid (block_zero ((HOK.out w1.heap.size tg c T 12000 HG.out).block _ ⟨0, 0, 0⟩ 0 PS0.out (by omega) (by omega))); have BA := Lib.hid (Nat.le_trans b.size (Nat.le_refl _)); clear b row t0 t1 t2 t3)
     |(go_at_call 16; refine BLK.out.mono ?_; rintro e w2 ⟨⟨v, rfl, sl⟩, p2, o2, ii⟩; have P2 := Lib.hid p2; have SL := Lib.hid sl; have B2 := Lib.hid (B1.out.trans (((Below.refl W.heap.size w1).alloc B1.out.size (.cells #[.slice (some ⟨tg, 0, none⟩) T.length c, .int .i64 0, .int .i64 0, .int .i64 0] 48)).trans (o2.below (B := W.heap.size) (fun n e => by have := B1.out.size; omega) (Nat.le_trans B1.out.size (Nat.le_of_lt (al_lt' w1 _)))))); have PD := Lib.hid (P2.out.sm (Sm.drewn w2)); clear p2 o2 sl ii; obtain ⟨⟨c0, c1, c2, c3⟩, f0, f1, f2, f3⟩ := P2.out.blk.four; obtain ⟨t0, t1, t2, t3⟩ := P2.out.tok; have i1 : (((fs T 12000).block 0 ⟨0, 0, 0⟩).2.i : Int) < (T.length : Int) := (by have := P2.out.inb; omega); have jc : (T.length : Int) ≤ (c : Int) := (by have := P2.out.cap; omega)))
    go_region
    go_wp2_with (go_at_call 17; refine (fail_any PD.out 14).mono ?_; rintro e w3 ⟨rfl, p3, o3⟩; rw [EF.out] at p3; have P3 := Lib.hid p3; have B3 := Lib.hid (B2.out.drew.trans (o3.below (B := W.heap.size) (fun n e => by have := B1.out.size; omega) B2.out.size)); clear p3 o3 c0 c1 c2 c3 f0 f1 f2 f3 t0 t1 t2 t3; obtain ⟨⟨c0, c1, c2, c3⟩, -⟩ := P3.out.blk.four)
    go_region
    go_wp2_with fail
    go_ret3
    have e2 := E2.out
    exact ⟨⟨fun h => by rw [e2] at h; exact absurd h (show ¬ (14 : Int) = 0 by decide), fun _ => by rw [e2]; rfl⟩, B3.out.drew⟩
  ·have q0 : (((fs T 12000).block 0 ⟨0, 0, 0⟩).2.code == 0) = false := by simpa using q
   have q1 : (((fs T 12000).block 0 ⟨0, 0, 0⟩).2.code != 0) = true := by simpa using q
   have E2 : Hid (script T = (((fs T 12000).block 0 ⟨0, 0, 0⟩).1, ((fs T 12000).block 0 ⟨0, 0, 0⟩).2)) := Lib.hid (by rw [SC.out, if_neg (fun x => q x.1)])
   have HQ := Lib.hid q
   clear q
   go_enter Try.func6, Try.ntmps6
   go_wp2_with (first
    |(go_at_call 15; refine RL.out.mono ?_; rintro e w1 ⟨⟨tv, err, p, rfl, rfl, rfl, row⟩, b⟩; have B1 := Lib.hid b; obtain ⟨tg, c, rfl, t0, t1, t2, t3⟩ := trow_at row HP.out; have PS0 := Lib.hid (ps_start t1 t2 t3 HP.out HN.out); have BLK := Lib.hid (block_zero ((HOK.out w1.heap.size tg c T 12000 HG.out).block _ ⟨0, 0, 0⟩ 0 PS0.out (by omega) (by omega))); have BA := Lib.hid (Nat.le_trans b.size (Nat.le_refl _)); clear b row t0 t1 t2 t3)
    |(go_at_call 16; refine BLK.out.mono ?_; rintro e w2 ⟨⟨v, rfl, sl⟩, p2, o2, ii⟩; have P2 := Lib.hid p2; have SL := Lib.hid sl; have B2 := Lib.hid (B1.out.trans (((Below.refl W.heap.size w1).alloc B1.out.size (.cells #[.slice (some ⟨tg, 0, none⟩) T.length c, .int .i64 0, .int .i64 0, .int .i64 0] 48)).trans (o2.below (B := W.heap.size) (fun n e => by have := B1.out.size; omega) (Nat.le_trans B1.out.size (Nat.le_of_lt (al_lt' w1 _)))))); have PD := Lib.hid (P2.out.sm (Sm.drewn w2)); clear p2 o2 sl ii; obtain ⟨⟨c0, c1, c2, c3⟩, f0, f1, f2, f3⟩ := P2.out.blk.four; obtain ⟨t0, t1, t2, t3⟩ := P2.out.tok; have i1 : (((fs T 12000).block 0 ⟨0, 0, 0⟩).2.i : Int) < (T.length : Int) := (by have := P2.out.inb; omega); have jc : (T.length : Int) ≤ (c : Int) := (by have := P2.out.cap; omega)))
   go_region
   go_wp2_with fail
   go_region
   go_wp2_with fail
   go_ret3
   have e2 := E2.out
   exact ⟨⟨fun h => by rw [e2] at h; exact absurd h HQ.out, fun _ => by rw [e2]; rfl⟩, B2.out.drew.drew⟩
end Go.Proofs.Yteakhlnnepjhpaa
