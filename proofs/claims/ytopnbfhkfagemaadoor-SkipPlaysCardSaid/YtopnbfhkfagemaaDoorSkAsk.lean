/- The law's asks: a set's answers against the document's list. -/
import Derived.Test.YtopnbfhkfagemaaDoorSkRefP
import Derived.Test.YtopnbfhkfagemaaDoorSkOrder
import Derived.Test.YtopnbfhkfagemaaDoorSkParts
namespace Go.Proofs.YtopnbfhkfagemaaDoor
open Go.RowKit
set_option linter.unusedVariables false
theorem sl_mid {W : World} {a : Addr} {n c : Nat} {l : List SkM.E} (h : SList W (.slice (some a) n c) l) (f t : Nat) (hf : f ≤ t) (ht : t ≤ l.length) : SList W (.slice (if c = f then some a else some (a.add (f * 2))) (t - f) (c - f)) ((l.drop f).take (t - f)) := by
  obtain ⟨A, c', e, hA, hc, hr⟩ := h
  injection e with e1 e2 e3
  subst e1; subst e3; subst e2
  have ln : ((l.drop f).take (t - f)).length = t - f := by rw [List.length_take, List.length_drop]; omega
  refine ⟨_, _, by rw [ln], (fun e => by split at e <;> cases e), by omega, fun i hi => ?_⟩
  have hne : c ≠ f := by omega
  obtain ⟨p, ep, hp, h1, h2⟩ := hr (f + i) (by omega)
  injection ep with ep
  subst ep
  have e : (a.add (f * 2)).add (i * 2) = a.add ((f + i) * 2) := by rw [add_add]; congr 1; omega
  refine ⟨a.add (f * 2), by rw [if_neg hne], by rw [add_block]; exact hp, ?_, ?_⟩
  · rw [e, List.getElem_take, List.getElem_drop]; exact h1
  · rw [e, List.getElem_take, List.getElem_drop]; exact h2
theorem cut_len (l : List SkM.E) (i j : Int) : (SkM.cut l i j).length ≤ l.length := by
  rw [cut_span, List.length_take, List.length_drop]
  omega
theorem row_cells {W : World} {A : Option Addr} {n c : Nat} {l : List SkM.E} (h : SList W (.slice A n c) l) (k : Nat) (hk : k < l.length) {nm : ByteArray} {u : Int} (e : l[k] = (nm.data.toList, u)) : ∃ a, A = some a ∧ a.block < W.heap.size ∧ W.cell? (a.add (k * 2)) = some (.string nm) ∧ W.cell? ⟨(a.add (k * 2)).block, (a.add (k * 2)).off + 1, none⟩ = some (.int .i64 u) := by
  obtain ⟨A', c', e', hA, hc, hr⟩ := h
  injection e' with e1 e2 e3
  obtain ⟨p, ep, hp, h1, h2⟩ := hr k hk
  rw [e] at h1 h2
  exact ⟨p, e1.trans ep, hp, h1, h2⟩
set_option maxRecDepth 20000 in
set_option maxHeartbeats 16000000 in
theorem asks_any (w0 w : World) (p : Addr) (v : Value) (l : List SkM.E) (H : SSt w0 w p l) (SL0 : SList w v l) (h9 : l.length ≤ 999) (kd i j x : Int) (s : ByteArray) (hs : s.size ≤ lim) (i0 : -9223372036854775808 ≤ i) (i1 : i ≤ 9223372036854775807) (j0 : -9223372036854775808 ≤ j) (j1 : j ≤ 9223372036854775807) :
    Calls Tryd.prog 13 #[.pointer (some p), v, .agg #[.int .i64 kd, .int .i64 i, .int .i64 j, .string s, .int .i64 x]] w fun e w' => e = .returned (.bool true) ∧ Below w.heap.size w w' := by
  have OK := Lib.hid H.ok
  have hs' : s.size ≤ maxLen := Nat.le_trans hs lim_le
  obtain ⟨w1, hw1⟩ : ∃ w1, w.alloc (.cells #[.int .i64 kd, .int .i64 i, .int .i64 j, .string s, .int .i64 x] 32) = w1 := ⟨_, rfl⟩
  have al1 : Below w.heap.size w w1 := by rw [← hw1]; exact (Below.refl _ w).alloc (Nat.le_refl _) _
  have x1 : w1.cell? ⟨w.heap.size, 1, none⟩ = some (.int .i64 i) := by rw [← hw1, World.cell?_alloc_new]; rfl
  have x2 : w1.cell? ⟨w.heap.size, 2, none⟩ = some (.int .i64 j) := by rw [← hw1, World.cell?_alloc_new]; rfl
  have x3 : w1.cell? ⟨w.heap.size, 3, none⟩ = some (.string s) := by rw [← hw1, World.cell?_alloc_new]; rfl
  have x4 : w1.cell? ⟨w.heap.size, 4, none⟩ = some (.int .i64 x) := by rw [← hw1, World.cell?_alloc_new]; rfl
  have X : Hid (∀ W, Below w1.heap.size w1 W → W.cell? ⟨w.heap.size, 1, none⟩ = some (.int .i64 i) ∧ W.cell? ⟨w.heap.size, 2, none⟩ = some (.int .i64 j) ∧ W.cell? ⟨w.heap.size, 3, none⟩ = some (.string s) ∧ W.cell? ⟨w.heap.size, 4, none⟩ = some (.int .i64 x)) := fun W hW =>
    ⟨(hW.cell (p := ⟨w.heap.size, 1, none⟩) (cell_in x1)).trans x1, (hW.cell (p := ⟨w.heap.size, 2, none⟩) (cell_in x2)).trans x2, (hW.cell (p := ⟨w.heap.size, 3, none⟩) (cell_in x3)).trans x3, (hW.cell (p := ⟨w.heap.size, 4, none⟩) (cell_in x4)).trans x4⟩
  have AL1 := Lib.hid al1
  have HW1 := Lib.hid hw1
  have H1 := Lib.hid (H.keep al1)
  have SL := Lib.hid (SL0.keep al1)
  obtain ⟨A, c, rfl, hA, hc, -⟩ := SL0
  obtain ⟨n, hn⟩ : ∃ n, l.length = n := ⟨_, rfl⟩
  rw [hn] at SL hc h9 ⊢
  have LN := Lib.hid hn
  have N9 := Lib.hid h9
  have n9 : (n : Int) ≤ 999 := by omega
  have n0 : (0 : Int) ≤ (n : Int) := by omega
  have nc : (n : Int) ≤ (c : Int) := by omega
  have HC := Lib.hid hc
  -- the calls
  have PL : Hid (∀ W, Calls Tryd.prog 30 #[.int .i64 (n : Int), .int .i64 i] W fun e w' => e = .returned (.tuple #[.int .i64 (idx n i), .bool (there n i)]) ∧ w' = W) := fun W => rplace_any W n (by omega) i i0 i1
  have PS : Hid (∀ W, Calls Tryd.prog 31 #[.int .i64 (n : Int), .int .i64 i, .int .i64 j] W fun e w' => e = .returned (.tuple #[.int .i64 ((span n i j).1 : Int), .int .i64 ((span n i j).2 : Int)]) ∧ w' = W) := fun W => rplaces_any W n (by omega) i j i0 i1 j0 j1
  obtain ⟨fr, hfr⟩ : ∃ fr, (span n i j).1 = fr := ⟨_, rfl⟩
  obtain ⟨to, hto⟩ : ∃ to, (span n i j).2 = to := ⟨_, rfl⟩
  have CUT : Hid (SkM.cut l i j = (l.drop fr).take (to - fr) ∧ fr ≤ to ∧ to ≤ n) := by
    have := span_le n i j
    rw [hfr, hto] at this
    refine ⟨?_, this⟩
    rw [cut_span, hn, hfr, hto]
  rw [hfr, hto] at PS
  obtain ⟨T, hT⟩ : ∃ T, (l.takeWhile fun a => decide (a.2 < x)).length = T := ⟨_, rfl⟩
  have TI : Hid (∀ (q : Nat) (h : q < l.length), l[q].2 < x ↔ q < T) := fun q h => by rw [← hT]; exact below_iff H.ok x q h
  have TN : Hid (T ≤ n) := by show _ ≤ _; rw [← hT, ← hn]; exact below_len l x
  have BLW : Hid (∀ W, SSt w0 W p l → Calls Tryd.prog 21 #[.pointer (some p), .int .i64 x] W fun e w' => e = .returned (.int .i64 (T : Int)) ∧ Below W.heap.size W w') := fun W hW => by
    obtain ⟨⟨G, hsr, -⟩, -⟩ := hW
    have := rbelow hsr x
    rw [hT] at this
    exact this
  have RGW : Hid (∀ W, SSt w0 W p l → Calls Tryd.prog 24 #[.pointer (some p), .int .i64 i, .int .i64 j] W fun e w' => (∃ v', e = .returned v' ∧ SList w' v' (SkM.cut l i j)) ∧ Below W.heap.size W w') := fun W hW => by
    obtain ⟨⟨G, hsr, -⟩, -⟩ := hW
    exact rrange hsr i j i0 i1 j0 j1
  have CL : Hid ((SkM.cut l i j).length ≤ 1000) := by show _ ≤ _; have := cut_len l i j; omega
  have fr0 : (0 : Int) ≤ (fr : Int) := by omega
  have to0 : (0 : Int) ≤ (to : Int) := by omega
  have frto : (fr : Int) ≤ (to : Int) := by have := CUT.out.2; omega
  have ton : (to : Int) ≤ (n : Int) := by have := CUT.out.2; omega
  have toc : (to : Int) ≤ (c : Int) := by omega
  clear al1 hw1 x1 x2 x3 x4 hn hc h9 hfr hto hT H
  cases A with
  | none =>
    have N0 : Hid (n = 0) := by show n = 0; have := hA rfl; have := HC.out; omega
    have gn : SkM.get l s.data.toList = none := SkM.get_none.2 fun y hy => by
      have := List.length_pos_of_mem hy
      have := LN.out; have := N0.out; omega
    have hgt := gn
    have c0 := hA rfl
    subst c0
    have hth : ¬ (0 ≤ idx n i ∧ idx n i < (n : Int)) := by have := N0.out; omega
    clear hA gn
    have RC : Hid (∀ W, SList W (.slice none n 0) l → Calls Tryd.prog 29 #[.slice none n 0, .string s] W fun e w' => e = .returned (.int .i64 (-1)) ∧ w' = W) := fun W hW => by
      have := rank_ref W _ l hW (by have := LN.out; have := N9.out; omega) s
      rw [hgt] at this
      exact this
    have SC : Hid (∀ W, SSt w0 W p l → Calls Tryd.prog 19 #[.pointer (some p), .string s] W fun e w' => e = .returned (.tuple #[.int .i64 0, .bool false]) ∧ Below W.heap.size W w') := fun W hW => by
      obtain ⟨⟨G, hsr, -⟩, -⟩ := hW
      have := rscore hsr s hs'
      rw [hgt] at this
      exact this
    have KC : Hid (∀ W, SSt w0 W p l → Calls Tryd.prog 18 #[.pointer (some p), .string s] W fun e w' => e = .returned (.tuple #[.int .i64 0, .bool false]) ∧ Below W.heap.size W w') := fun W hW => by
      obtain ⟨⟨G, hsr, -⟩, -⟩ := hW
      have := rrank hsr s hs'
      rw [hgt] at this
      exact this
    have ATN : Hid (∀ W, SSt w0 W p l → Calls Tryd.prog 20 #[.pointer (some p), .int .i64 i] W fun e w' => e = .returned (.tuple #[.agg #[.string ⟨#[]⟩, .int .i64 0], .bool false]) ∧ Below W.heap.size W w') := fun W hW => by
      obtain ⟨⟨G, hsr, -⟩, -⟩ := hW
      refine (rat hsr i i0 i1).mono ?_
      rintro e w' ⟨rfl, hb⟩
      refine ⟨?_, hb⟩
      rw [dif_neg (by rw [LN.out]; omega)]
    have th : there n i = false := decide_eq_false hth
    obtain ⟨ri, hri⟩ : ∃ ri, idx n i = ri := ⟨_, rfl⟩
    rw [hri, th] at PL
    clear hth th hri
    clear hgt hs hs'
    go_enter Tryd.func13, Tryd.ntmps13
    go_wp2_with fail
    rw [HW1.out]
    obtain ⟨y1, y2, y3, y4⟩ := X.out w1 (Below.refl _ _)
    go_wp2_with fail
    go_at_call 29
    refine (RC.out w1 SL.out).mono ?_
    rintro e w2 ⟨rfl, hw2⟩
    obtain rfl := hw2.symm
    clear hw2
    go_wp2_with fail
    go_at_call 19
    refine (SC.out w1 H1.out).mono ?_
    rintro e w3 ⟨rfl, hb3⟩
    have H3 := Lib.hid (H1.out.keep hb3)
    have B3 := Lib.hid hb3
    clear hb3 y1 y2 y3 y4 H1
    obtain ⟨y1, y2, y3, y4⟩ := X.out w3 B3.out
    go_wp2_with fail
    go_at_call 18
    refine (KC.out w3 H3.out).mono ?_
    rintro e w4 ⟨rfl, hb4⟩
    have H4 := Lib.hid (H3.out.keep hb4)
    have B4 := Lib.hid (below_then B3.out hb4)
    clear hb4 y1 y2 y3 y4 H3 B3
    obtain ⟨y1, y2, y3, y4⟩ := X.out w4 B4.out
    skip
    go_wp2_with fail
    go_at_call 30
    refine (PL.out w4).mono ?_
    rintro e w5 ⟨rfl, hw5⟩
    obtain rfl := hw5.symm
    clear hw5
    go_wp2_with fail
    go_at_call 20
    refine (ATN.out w4 H4.out).mono ?_
    rintro e w6 ⟨rfl, hb6⟩
    have H6 := Lib.hid (H4.out.keep hb6)
    have B6 := Lib.hid (below_then B4.out hb6)
    clear hb6 y1 y2 y3 y4 H4 B4
    go_wp2_with fail
    obtain ⟨w7, hw7⟩ : ∃ w7, w6.alloc (.cells #[.string ⟨#[]⟩, .int .i64 0] 30) = w7 := ⟨_, rfl⟩
    have al7 : Below w6.heap.size w6 w7 := by rw [← hw7]; exact (Below.refl _ w6).alloc (Nat.le_refl _) _
    obtain ⟨b1, hb1⟩ : ∃ b1, w6.heap.size = b1 := ⟨_, rfl⟩
    have z0 : w7.cell? ⟨b1, 0, none⟩ = some (.string ⟨#[]⟩) := by rw [← hw7, ← hb1, World.cell?_alloc_new]; rfl
    have z1 : w7.cell? ⟨b1, 1, none⟩ = some (.int .i64 0) := by rw [← hw7, ← hb1, World.cell?_alloc_new]; rfl
    have H7 := Lib.hid (H6.out.keep al7)
    have B7 := Lib.hid (below_then B6.out al7)
    rw [hw7, hb1]
    clear hw7 al7 hb1 H6 B6
    skip
    have ne := run_neq_same
    go_quiet (fail)
    obtain ⟨w8, hw8⟩ : ∃ w8, w7.drewN nq = w8 := ⟨_, rfl⟩
    have H8 : Hid (SSt w0 w8 p l) := by show SSt _ _ _ _; rw [← hw8]; exact H7.out.keep (below_drewN _ _ _)
    have B8 : Hid (Below w1.heap.size w1 w8) := by show Below _ _ _; rw [← hw8]; exact below_then B7.out (below_drewN _ _ _)
    rw [hw8]
    clear hw8 H7 B7 z0 z1 ne
    have SL8 := Lib.hid (SL.out.keep B8.out)
    go_wp2_with fail
    go_loopw [16] (fun u wr => ∃ q : Nat, q ≤ T ∧ u = .int .i64 (q : Int) ∧ Below w8.heap.size w8 wr) (fun u _ => n - (intOf u).toNat)
    case atStart => exact ⟨0, Nat.zero_le _, rfl, Below.refl _ _⟩
    case round =>
      obtain ⟨q, hq, rfl, hbr⟩ := hrel
      have q0 : (0 : Int) ≤ (q : Int) := by omega
      have HQ := Lib.hid hq
      have BR := Lib.hid (below_then B8.out hbr)
      have BR8 := Lib.hid hbr
      have HR := Lib.hid (H8.out.keep hbr)
      have SLR := Lib.hid (SL8.out.keep hbr)
      clear hbr hq
      obtain ⟨y1, y2, y3, y4⟩ := X.out wr BR.out
      obtain rfl : n = 0 := N0.out
      obtain rfl : T = 0 := by have := TN.out; omega
      obtain rfl : q = 0 := by have := HQ.out; omega
      obtain rfl : fr = 0 := by have := CUT.out.2; omega
      obtain rfl : to = 0 := by have := CUT.out.2; omega
      have g2 : decide (0 < 0) = false := rfl
      go_wp2_with fail
      go_quiet (fail)
      go_wp2_with fail
      obtain ⟨wq, hwq⟩ : ∃ wq, wr.drewN nq = wq := ⟨_, rfl⟩
      have HQ9 : Hid (SSt w0 wq p l) := by show SSt _ _ _ _; rw [← hwq]; exact HR.out.keep (below_drewN _ _ _)
      have BQ : Hid (Below w1.heap.size w1 wq) := by show Below _ _ _; rw [← hwq]; exact below_then BR.out (below_drewN _ _ _)
      try rw [hwq]
      clear hwq y1 y2 y3 y4
      have SLQ := Lib.hid (SL.out.keep BQ.out)
      obtain ⟨y1, y2, y3, y4⟩ := X.out wq BQ.out
      go_wp2_with fail
      go_at_call 31
      refine (PS.out wq).mono ?_
      rintro e w9 ⟨rfl, hw9⟩
      obtain rfl := hw9.symm
      clear hw9
      have S0 : Hid (∀ W, Below wq.heap.size wq W → Below wq.heap.size wq W ∧ W.cell? ⟨w.heap.size, 1, none⟩ = some (.int .i64 i) ∧ W.cell? ⟨w.heap.size, 2, none⟩ = some (.int .i64 j) ∧ W.cell? ⟨w.heap.size, 4, none⟩ = some (.int .i64 x)) := fun W hW => by
        obtain ⟨a1, a2, a3, a4⟩ := X.out W (below_then BQ.out hW)
        exact ⟨hW, a1, a2, a4⟩
      have S1 : Hid (Below wq.heap.size wq wq.drew ∧ wq.drew.cell? ⟨w.heap.size, 1, none⟩ = some (.int .i64 i) ∧ wq.drew.cell? ⟨w.heap.size, 2, none⟩ = some (.int .i64 j) ∧ wq.drew.cell? ⟨w.heap.size, 4, none⟩ = some (.int .i64 x)) := S0.out _ ((Below.refl _ wq).drew)
      have KEEP : Hid (∀ W W', Below W.heap.size W W' → (Below wq.heap.size wq W ∧ W.cell? ⟨w.heap.size, 1, none⟩ = some (.int .i64 i) ∧ W.cell? ⟨w.heap.size, 2, none⟩ = some (.int .i64 j) ∧ W.cell? ⟨w.heap.size, 4, none⟩ = some (.int .i64 x)) → (Below wq.heap.size wq W' ∧ W'.cell? ⟨w.heap.size, 1, none⟩ = some (.int .i64 i) ∧ W'.cell? ⟨w.heap.size, 2, none⟩ = some (.int .i64 j) ∧ W'.cell? ⟨w.heap.size, 4, none⟩ = some (.int .i64 x))) := fun W W' hb h => S0.out _ (below_then h.1 hb)
      have BC : Hid (∀ W, (Below wq.heap.size wq W ∧ W.cell? ⟨w.heap.size, 1, none⟩ = some (.int .i64 i) ∧ W.cell? ⟨w.heap.size, 2, none⟩ = some (.int .i64 j) ∧ W.cell? ⟨w.heap.size, 4, none⟩ = some (.int .i64 x)) → Calls Tryd.prog 21 #[.pointer (some p), .int .i64 x] W fun e w' => e = .returned (.int .i64 ((0 : Nat) : Int)) ∧ Below W.heap.size W w') := fun W h => BLW.out W (HQ9.out.keep h.1)
      have RG : Hid (∀ W, (Below wq.heap.size wq W ∧ W.cell? ⟨w.heap.size, 1, none⟩ = some (.int .i64 i) ∧ W.cell? ⟨w.heap.size, 2, none⟩ = some (.int .i64 j) ∧ W.cell? ⟨w.heap.size, 4, none⟩ = some (.int .i64 x)) → Calls Tryd.prog 24 #[.pointer (some p), .int .i64 i, .int .i64 j] W fun e w' => (∃ v', e = .returned v' ∧ SList w' v' (SkM.cut l i j)) ∧ Below W.heap.size W w') := fun W h => RGW.out W (HQ9.out.keep h.1)
      have SCO : Hid (∀ W vr, SList W vr (SkM.cut l i j) → (Below wq.heap.size wq W ∧ W.cell? ⟨w.heap.size, 1, none⟩ = some (.int .i64 i) ∧ W.cell? ⟨w.heap.size, 2, none⟩ = some (.int .i64 j) ∧ W.cell? ⟨w.heap.size, 4, none⟩ = some (.int .i64 x)) → Calls Tryd.prog 16 #[vr, .slice none 0 0] W fun e w' => e = .returned (.bool true) ∧ Below W.heap.size W w') := fun W vr hv h => scores_any W vr _ _ hv (by rw [CUT.out.1]; exact sl_none _ _ (by simp)) CL.out
      clear y1 y2 y3 y4
      go_wp2_with fail
      go_region_held3 (fun W => Below wq.heap.size wq W ∧ W.cell? ⟨w.heap.size, 1, none⟩ = some (.int .i64 i) ∧ W.cell? ⟨w.heap.size, 2, none⟩ = some (.int .i64 j) ∧ W.cell? ⟨w.heap.size, 4, none⟩ = some (.int .i64 x)) (first | exact S1.out | exact KEEP.out _ _ (by assumption) (by assumption) | assumption) (first
        | (go_at_call 21; with_reducible refine (BC.out _ (by assumption)).mono ?_; rintro e wb ⟨rfl, hb⟩)
        | (go_at_call 24; with_reducible refine (RG.out _ (by assumption)).mono ?_; rintro e wc ⟨⟨vr, rfl, hsr⟩, hb⟩)
        | (go_at_call 16; with_reducible refine (SCO.out _ _ (by assumption) (by assumption)).mono ?_; rintro e wd ⟨rfl, hb⟩))
      have SE : Below wq.heap.size wq wd ∧ wd.cell? ⟨w.heap.size, 1, none⟩ = some (.int .i64 i) ∧ wd.cell? ⟨w.heap.size, 2, none⟩ = some (.int .i64 j) ∧ wd.cell? ⟨w.heap.size, 4, none⟩ = some (.int .i64 x) := by assumption
      have BE := Lib.hid (below_then AL1.out (below_then BQ.out SE.1))
      clear SE S0 S1 KEEP BC RG SCO
      go_wp2_with fail
      go_ret
      exact ⟨rfl, BE.out⟩
  | some a =>
    clear hA
    cases hgt : SkM.get l s.data.toList with
    | none =>
      have RC : Hid (∀ W, SList W (.slice (some a) n c) l → Calls Tryd.prog 29 #[.slice (some a) n c, .string s] W fun e w' => e = .returned (.int .i64 (-1)) ∧ w' = W) := fun W hW => by
        have := rank_ref W _ l hW (by have := LN.out; have := N9.out; omega) s
        rw [hgt] at this
        exact this
      have SC : Hid (∀ W, SSt w0 W p l → Calls Tryd.prog 19 #[.pointer (some p), .string s] W fun e w' => e = .returned (.tuple #[.int .i64 0, .bool false]) ∧ Below W.heap.size W w') := fun W hW => by
        obtain ⟨⟨G, hsr, -⟩, -⟩ := hW
        have := rscore hsr s hs'
        rw [hgt] at this
        exact this
      have KC : Hid (∀ W, SSt w0 W p l → Calls Tryd.prog 18 #[.pointer (some p), .string s] W fun e w' => e = .returned (.tuple #[.int .i64 0, .bool false]) ∧ Below W.heap.size W w') := fun W hW => by
        obtain ⟨⟨G, hsr, -⟩, -⟩ := hW
        have := rrank hsr s hs'
        rw [hgt] at this
        exact this
      by_cases hth : 0 ≤ idx n i ∧ idx n i < (n : Int)
      · obtain ⟨r, hr, hrl⟩ : ∃ r : Nat, idx n i = (r : Int) ∧ r < l.length := ⟨(idx n i).toNat, by omega, by have := hth.2; have := LN.out; omega⟩
        have r0 : (0 : Int) ≤ (r : Int) := by omega
        have rn : (r : Int) < (n : Int) := by have := LN.out; omega
        have rc : (r : Int) < (c : Int) := by omega
        obtain ⟨nm, hnm⟩ : ∃ nm : ByteArray, (⟨l[r].1.toArray⟩ : ByteArray) = nm := ⟨_, rfl⟩
        obtain ⟨u, hu⟩ : ∃ u, l[r].2 = u := ⟨_, rfl⟩
        have HRL := Lib.hid hrl
        have HRE : Hid (l[r] = (nm.data.toList, u)) := by show l[r] = (nm.data.toList, u); rw [← hnm, ← hu] <;> rfl
        have ATC : Hid (∀ W, SSt w0 W p l → Calls Tryd.prog 20 #[.pointer (some p), .int .i64 i] W fun e w' => e = .returned (.tuple #[.agg #[.string nm, .int .i64 u], .bool true]) ∧ Below W.heap.size W w') := fun W hW => by
          obtain ⟨⟨G, hsr, -⟩, -⟩ := hW
          refine (rat hsr i i0 i1).mono ?_
          rintro e w' ⟨rfl, hb⟩
          refine ⟨?_, hb⟩
          have hr' : idx l.length i = (r : Int) := by rw [LN.out]; exact hr
          rw [dif_pos ⟨by omega, by omega⟩]
          have k : (idx l.length i).toNat = r := by omega
          simp only [k, hnm, hu]
        have th : there n i = true := decide_eq_true hth
        rw [hr, th] at PL
        clear hth th hr hnm hu
        clear hgt hs hs'
        go_enter Tryd.func13, Tryd.ntmps13
        go_wp2_with fail
        rw [HW1.out]
        obtain ⟨y1, y2, y3, y4⟩ := X.out w1 (Below.refl _ _)
        go_wp2_with fail
        go_at_call 29
        refine (RC.out w1 SL.out).mono ?_
        rintro e w2 ⟨rfl, hw2⟩
        obtain rfl := hw2.symm
        clear hw2
        go_wp2_with fail
        go_at_call 19
        refine (SC.out w1 H1.out).mono ?_
        rintro e w3 ⟨rfl, hb3⟩
        have H3 := Lib.hid (H1.out.keep hb3)
        have B3 := Lib.hid hb3
        clear hb3 y1 y2 y3 y4 H1
        obtain ⟨y1, y2, y3, y4⟩ := X.out w3 B3.out
        go_wp2_with fail
        go_at_call 18
        refine (KC.out w3 H3.out).mono ?_
        rintro e w4 ⟨rfl, hb4⟩
        have H4 := Lib.hid (H3.out.keep hb4)
        have B4 := Lib.hid (below_then B3.out hb4)
        clear hb4 y1 y2 y3 y4 H3 B3
        obtain ⟨y1, y2, y3, y4⟩ := X.out w4 B4.out
        skip
        go_wp2_with fail
        go_at_call 30
        refine (PL.out w4).mono ?_
        rintro e w5 ⟨rfl, hw5⟩
        obtain rfl := hw5.symm
        clear hw5
        go_wp2_with fail
        go_at_call 20
        refine (ATC.out w4 H4.out).mono ?_
        rintro e w6 ⟨rfl, hb6⟩
        have H6 := Lib.hid (H4.out.keep hb6)
        have B6 := Lib.hid (below_then B4.out hb6)
        clear hb6 y1 y2 y3 y4 H4 B4
        go_wp2_with fail
        obtain ⟨w7, hw7⟩ : ∃ w7, w6.alloc (.cells #[.string nm, .int .i64 u] 30) = w7 := ⟨_, rfl⟩
        have al7 : Below w6.heap.size w6 w7 := by rw [← hw7]; exact (Below.refl _ w6).alloc (Nat.le_refl _) _
        obtain ⟨b1, hb1⟩ : ∃ b1, w6.heap.size = b1 := ⟨_, rfl⟩
        have z0 : w7.cell? ⟨b1, 0, none⟩ = some (.string nm) := by rw [← hw7, ← hb1, World.cell?_alloc_new]; rfl
        have z1 : w7.cell? ⟨b1, 1, none⟩ = some (.int .i64 u) := by rw [← hw7, ← hb1, World.cell?_alloc_new]; rfl
        have H7 := Lib.hid (H6.out.keep al7)
        have B7 := Lib.hid (below_then B6.out al7)
        rw [hw7, hb1]
        clear hw7 al7 hb1 H6 B6
        have SLQ7 := Lib.hid (SL.out.keep B7.out)
        obtain ⟨a', ea', -, f0, f1⟩ := row_cells SLQ7.out r HRL.out HRE.out
        injection ea' with ea'
        subst ea'
        clear SLQ7
        have ne := run_neq_same
        go_quiet (fail)
        obtain ⟨w8, hw8⟩ : ∃ w8, w7.drewN nq = w8 := ⟨_, rfl⟩
        have H8 : Hid (SSt w0 w8 p l) := by show SSt _ _ _ _; rw [← hw8]; exact H7.out.keep (below_drewN _ _ _)
        have B8 : Hid (Below w1.heap.size w1 w8) := by show Below _ _ _; rw [← hw8]; exact below_then B7.out (below_drewN _ _ _)
        rw [hw8]
        clear hw8 H7 B7 z0 z1 ne f0 f1
        have SL8 := Lib.hid (SL.out.keep B8.out)
        go_wp2_with fail
        go_loopw [16] (fun u wr => ∃ q : Nat, q ≤ T ∧ u = .int .i64 (q : Int) ∧ Below w8.heap.size w8 wr) (fun u _ => n - (intOf u).toNat)
        case atStart => exact ⟨0, Nat.zero_le _, rfl, Below.refl _ _⟩
        case round =>
          obtain ⟨q, hq, rfl, hbr⟩ := hrel
          have q0 : (0 : Int) ≤ (q : Int) := by omega
          have HQ := Lib.hid hq
          have BR := Lib.hid (below_then B8.out hbr)
          have BR8 := Lib.hid hbr
          have HR := Lib.hid (H8.out.keep hbr)
          have SLR := Lib.hid (SL8.out.keep hbr)
          clear hbr hq
          obtain ⟨y1, y2, y3, y4⟩ := X.out wr BR.out
          by_cases hqn : q < n
          · have q1 : (q : Int) < (n : Int) := by omega
            have g1 : decide ((q : Int) < (n : Int)) = true := decide_eq_true q1
            have g2 : decide (q < n) = true := decide_eq_true hqn
            have hql : q < l.length := by rw [LN.out]; exact hqn
            have ti := TI.out q hql
            obtain ⟨nq', hnq⟩ : ∃ nq' : ByteArray, (⟨l[q].1.toArray⟩ : ByteArray) = nq' := ⟨_, rfl⟩
            obtain ⟨uq, huq⟩ : ∃ uq, l[q].2 = uq := ⟨_, rfl⟩
            have eq : l[q] = (nq'.data.toList, uq) := by rw [← hnq, ← huq]
            obtain ⟨a', ea', -, -, c1⟩ := row_cells SLR.out q hql eq
            injection ea' with ea'
            subst ea'
            rw [huq] at ti
            have HQN := Lib.hid hqn
            clear hnq huq eq hql
            by_cases hqT : q < T
            · have d1 : decide (uq < x) = true := decide_eq_true (ti.2 hqT)
              have d2 : uq < x := ti.2 hqT
              have HQT := Lib.hid hqT
              clear ti hqT hqn
              go_wp2_with fail
              go_quiet (fail)
              go_wp2_with fail
              exact ⟨⟨q + 1, HQT.out, by go_num, BR8.out.trans (below_drewN _ _ _)⟩, by have := HQN.out; simp [intOf]; omega⟩
            · obtain rfl : q = T := by have := HQ.out; omega
              have d1 : decide (uq < x) = false := decide_eq_false (fun h => hqT (ti.1 h))
              have d2 : ¬ uq < x := fun h => hqT (ti.1 h)
              have d3 : x ≤ uq := by omega
              clear ti hqT hqn
              go_wp2_with fail
              go_quiet (fail)
              go_wp2_with fail
              obtain ⟨wq, hwq⟩ : ∃ wq, wr.drewN nq = wq := ⟨_, rfl⟩
              have HQ9 : Hid (SSt w0 wq p l) := by show SSt _ _ _ _; rw [← hwq]; exact HR.out.keep (below_drewN _ _ _)
              have BQ : Hid (Below w1.heap.size w1 wq) := by show Below _ _ _; rw [← hwq]; exact below_then BR.out (below_drewN _ _ _)
              try rw [hwq]
              clear hwq y1 y2 y3 y4
              have SLQ := Lib.hid (SL.out.keep BQ.out)
              obtain ⟨y1, y2, y3, y4⟩ := X.out wq BQ.out
              go_wp2_with fail
              go_at_call 31
              refine (PS.out wq).mono ?_
              rintro e w9 ⟨rfl, hw9⟩
              obtain rfl := hw9.symm
              clear hw9
              obtain ⟨a2, ha2⟩ : ∃ a2, (if c = fr then some a else some (a.add (fr * 2))) = some a2 := by split <;> exact ⟨_, rfl⟩
              have HA2 := Lib.hid ha2
              have S0 : Hid (∀ W, Below wq.heap.size wq W → Below wq.heap.size wq W ∧ W.cell? ⟨w.heap.size, 1, none⟩ = some (.int .i64 i) ∧ W.cell? ⟨w.heap.size, 2, none⟩ = some (.int .i64 j) ∧ W.cell? ⟨w.heap.size, 4, none⟩ = some (.int .i64 x)) := fun W hW => by
                obtain ⟨a1, a2, a3, a4⟩ := X.out W (below_then BQ.out hW)
                exact ⟨hW, a1, a2, a4⟩
              have S1 : Hid (Below wq.heap.size wq wq.drew ∧ wq.drew.cell? ⟨w.heap.size, 1, none⟩ = some (.int .i64 i) ∧ wq.drew.cell? ⟨w.heap.size, 2, none⟩ = some (.int .i64 j) ∧ wq.drew.cell? ⟨w.heap.size, 4, none⟩ = some (.int .i64 x)) := S0.out _ ((Below.refl _ wq).drew)
              have KEEP : Hid (∀ W W', Below W.heap.size W W' → (Below wq.heap.size wq W ∧ W.cell? ⟨w.heap.size, 1, none⟩ = some (.int .i64 i) ∧ W.cell? ⟨w.heap.size, 2, none⟩ = some (.int .i64 j) ∧ W.cell? ⟨w.heap.size, 4, none⟩ = some (.int .i64 x)) → (Below wq.heap.size wq W' ∧ W'.cell? ⟨w.heap.size, 1, none⟩ = some (.int .i64 i) ∧ W'.cell? ⟨w.heap.size, 2, none⟩ = some (.int .i64 j) ∧ W'.cell? ⟨w.heap.size, 4, none⟩ = some (.int .i64 x))) := fun W W' hb h => S0.out _ (below_then h.1 hb)
              have BC : Hid (∀ W, (Below wq.heap.size wq W ∧ W.cell? ⟨w.heap.size, 1, none⟩ = some (.int .i64 i) ∧ W.cell? ⟨w.heap.size, 2, none⟩ = some (.int .i64 j) ∧ W.cell? ⟨w.heap.size, 4, none⟩ = some (.int .i64 x)) → Calls Tryd.prog 21 #[.pointer (some p), .int .i64 x] W fun e w' => e = .returned (.int .i64 (q : Int)) ∧ Below W.heap.size W w') := fun W h => BLW.out W (HQ9.out.keep h.1)
              have RG : Hid (∀ W, (Below wq.heap.size wq W ∧ W.cell? ⟨w.heap.size, 1, none⟩ = some (.int .i64 i) ∧ W.cell? ⟨w.heap.size, 2, none⟩ = some (.int .i64 j) ∧ W.cell? ⟨w.heap.size, 4, none⟩ = some (.int .i64 x)) → Calls Tryd.prog 24 #[.pointer (some p), .int .i64 i, .int .i64 j] W fun e w' => (∃ v', e = .returned v' ∧ SList w' v' (SkM.cut l i j)) ∧ Below W.heap.size W w') := fun W h => RGW.out W (HQ9.out.keep h.1)
              have SCO : Hid (∀ W vr, SList W vr (SkM.cut l i j) → (Below wq.heap.size wq W ∧ W.cell? ⟨w.heap.size, 1, none⟩ = some (.int .i64 i) ∧ W.cell? ⟨w.heap.size, 2, none⟩ = some (.int .i64 j) ∧ W.cell? ⟨w.heap.size, 4, none⟩ = some (.int .i64 x)) → Calls Tryd.prog 16 #[vr, .slice (some a2) (to - fr) (c - fr)] W fun e w' => e = .returned (.bool true) ∧ Below W.heap.size W w') := fun W vr hv h => scores_any W vr _ _ hv (by have := sl_mid (SLQ.out.keep h.1) fr to CUT.out.2.1 (by have := LN.out; have := CUT.out.2.2; omega); rw [← CUT.out.1, HA2.out] at this; exact this) CL.out
              clear y1 y2 y3 y4
              go_wp2_with fail
              go_region_held3 (fun W => Below wq.heap.size wq W ∧ W.cell? ⟨w.heap.size, 1, none⟩ = some (.int .i64 i) ∧ W.cell? ⟨w.heap.size, 2, none⟩ = some (.int .i64 j) ∧ W.cell? ⟨w.heap.size, 4, none⟩ = some (.int .i64 x)) (first | exact S1.out | exact KEEP.out _ _ (by assumption) (by assumption) | assumption) (first
                | (go_at_call 21; with_reducible refine (BC.out _ (by assumption)).mono ?_; rintro e wb ⟨rfl, hb⟩)
                | (go_at_call 24; with_reducible refine (RG.out _ (by assumption)).mono ?_; rintro e wc ⟨⟨vr, rfl, hsr⟩, hb⟩)
                | (go_at_call 16; with_reducible refine (SCO.out _ _ (by assumption) (by assumption)).mono ?_; rintro e wd ⟨rfl, hb⟩))
              have SE : Below wq.heap.size wq wd ∧ wd.cell? ⟨w.heap.size, 1, none⟩ = some (.int .i64 i) ∧ wd.cell? ⟨w.heap.size, 2, none⟩ = some (.int .i64 j) ∧ wd.cell? ⟨w.heap.size, 4, none⟩ = some (.int .i64 x) := by assumption
              have BE := Lib.hid (below_then AL1.out (below_then BQ.out SE.1))
              clear SE S0 S1 KEEP BC RG SCO
              go_wp2_with fail
              go_ret
              exact ⟨rfl, BE.out⟩
          · obtain rfl : q = n := by have := HQ.out; have := TN.out; omega
            have qT : Hid (q = T) := by show q = T; have := HQ.out; have := TN.out; omega
            have g1 : decide ((q : Int) < (q : Int)) = false := decide_eq_false (by omega)
            have g2 : decide (q < q) = false := decide_eq_false hqn
            obtain rfl := qT.out
            clear hqn qT
            go_wp2_with fail
            go_quiet (fail)
            go_wp2_with fail
            obtain ⟨wq, hwq⟩ : ∃ wq, wr.drewN nq = wq := ⟨_, rfl⟩
            have HQ9 : Hid (SSt w0 wq p l) := by show SSt _ _ _ _; rw [← hwq]; exact HR.out.keep (below_drewN _ _ _)
            have BQ : Hid (Below w1.heap.size w1 wq) := by show Below _ _ _; rw [← hwq]; exact below_then BR.out (below_drewN _ _ _)
            try rw [hwq]
            clear hwq y1 y2 y3 y4
            have SLQ := Lib.hid (SL.out.keep BQ.out)
            obtain ⟨y1, y2, y3, y4⟩ := X.out wq BQ.out
            go_wp2_with fail
            go_at_call 31
            refine (PS.out wq).mono ?_
            rintro e w9 ⟨rfl, hw9⟩
            obtain rfl := hw9.symm
            clear hw9
            obtain ⟨a2, ha2⟩ : ∃ a2, (if c = fr then some a else some (a.add (fr * 2))) = some a2 := by split <;> exact ⟨_, rfl⟩
            have HA2 := Lib.hid ha2
            have S0 : Hid (∀ W, Below wq.heap.size wq W → Below wq.heap.size wq W ∧ W.cell? ⟨w.heap.size, 1, none⟩ = some (.int .i64 i) ∧ W.cell? ⟨w.heap.size, 2, none⟩ = some (.int .i64 j) ∧ W.cell? ⟨w.heap.size, 4, none⟩ = some (.int .i64 x)) := fun W hW => by
              obtain ⟨a1, a2, a3, a4⟩ := X.out W (below_then BQ.out hW)
              exact ⟨hW, a1, a2, a4⟩
            have S1 : Hid (Below wq.heap.size wq wq.drew ∧ wq.drew.cell? ⟨w.heap.size, 1, none⟩ = some (.int .i64 i) ∧ wq.drew.cell? ⟨w.heap.size, 2, none⟩ = some (.int .i64 j) ∧ wq.drew.cell? ⟨w.heap.size, 4, none⟩ = some (.int .i64 x)) := S0.out _ ((Below.refl _ wq).drew)
            have KEEP : Hid (∀ W W', Below W.heap.size W W' → (Below wq.heap.size wq W ∧ W.cell? ⟨w.heap.size, 1, none⟩ = some (.int .i64 i) ∧ W.cell? ⟨w.heap.size, 2, none⟩ = some (.int .i64 j) ∧ W.cell? ⟨w.heap.size, 4, none⟩ = some (.int .i64 x)) → (Below wq.heap.size wq W' ∧ W'.cell? ⟨w.heap.size, 1, none⟩ = some (.int .i64 i) ∧ W'.cell? ⟨w.heap.size, 2, none⟩ = some (.int .i64 j) ∧ W'.cell? ⟨w.heap.size, 4, none⟩ = some (.int .i64 x))) := fun W W' hb h => S0.out _ (below_then h.1 hb)
            have BC : Hid (∀ W, (Below wq.heap.size wq W ∧ W.cell? ⟨w.heap.size, 1, none⟩ = some (.int .i64 i) ∧ W.cell? ⟨w.heap.size, 2, none⟩ = some (.int .i64 j) ∧ W.cell? ⟨w.heap.size, 4, none⟩ = some (.int .i64 x)) → Calls Tryd.prog 21 #[.pointer (some p), .int .i64 x] W fun e w' => e = .returned (.int .i64 (q : Int)) ∧ Below W.heap.size W w') := fun W h => BLW.out W (HQ9.out.keep h.1)
            have RG : Hid (∀ W, (Below wq.heap.size wq W ∧ W.cell? ⟨w.heap.size, 1, none⟩ = some (.int .i64 i) ∧ W.cell? ⟨w.heap.size, 2, none⟩ = some (.int .i64 j) ∧ W.cell? ⟨w.heap.size, 4, none⟩ = some (.int .i64 x)) → Calls Tryd.prog 24 #[.pointer (some p), .int .i64 i, .int .i64 j] W fun e w' => (∃ v', e = .returned v' ∧ SList w' v' (SkM.cut l i j)) ∧ Below W.heap.size W w') := fun W h => RGW.out W (HQ9.out.keep h.1)
            have SCO : Hid (∀ W vr, SList W vr (SkM.cut l i j) → (Below wq.heap.size wq W ∧ W.cell? ⟨w.heap.size, 1, none⟩ = some (.int .i64 i) ∧ W.cell? ⟨w.heap.size, 2, none⟩ = some (.int .i64 j) ∧ W.cell? ⟨w.heap.size, 4, none⟩ = some (.int .i64 x)) → Calls Tryd.prog 16 #[vr, .slice (some a2) (to - fr) (c - fr)] W fun e w' => e = .returned (.bool true) ∧ Below W.heap.size W w') := fun W vr hv h => scores_any W vr _ _ hv (by have := sl_mid (SLQ.out.keep h.1) fr to CUT.out.2.1 (by have := LN.out; have := CUT.out.2.2; omega); rw [← CUT.out.1, HA2.out] at this; exact this) CL.out
            clear y1 y2 y3 y4
            go_wp2_with fail
            go_region_held3 (fun W => Below wq.heap.size wq W ∧ W.cell? ⟨w.heap.size, 1, none⟩ = some (.int .i64 i) ∧ W.cell? ⟨w.heap.size, 2, none⟩ = some (.int .i64 j) ∧ W.cell? ⟨w.heap.size, 4, none⟩ = some (.int .i64 x)) (first | exact S1.out | exact KEEP.out _ _ (by assumption) (by assumption) | assumption) (first
              | (go_at_call 21; with_reducible refine (BC.out _ (by assumption)).mono ?_; rintro e wb ⟨rfl, hb⟩)
              | (go_at_call 24; with_reducible refine (RG.out _ (by assumption)).mono ?_; rintro e wc ⟨⟨vr, rfl, hsr⟩, hb⟩)
              | (go_at_call 16; with_reducible refine (SCO.out _ _ (by assumption) (by assumption)).mono ?_; rintro e wd ⟨rfl, hb⟩))
            have SE : Below wq.heap.size wq wd ∧ wd.cell? ⟨w.heap.size, 1, none⟩ = some (.int .i64 i) ∧ wd.cell? ⟨w.heap.size, 2, none⟩ = some (.int .i64 j) ∧ wd.cell? ⟨w.heap.size, 4, none⟩ = some (.int .i64 x) := by assumption
            have BE := Lib.hid (below_then AL1.out (below_then BQ.out SE.1))
            clear SE S0 S1 KEEP BC RG SCO
            go_wp2_with fail
            go_ret
            exact ⟨rfl, BE.out⟩
      · have ATN : Hid (∀ W, SSt w0 W p l → Calls Tryd.prog 20 #[.pointer (some p), .int .i64 i] W fun e w' => e = .returned (.tuple #[.agg #[.string ⟨#[]⟩, .int .i64 0], .bool false]) ∧ Below W.heap.size W w') := fun W hW => by
          obtain ⟨⟨G, hsr, -⟩, -⟩ := hW
          refine (rat hsr i i0 i1).mono ?_
          rintro e w' ⟨rfl, hb⟩
          refine ⟨?_, hb⟩
          rw [dif_neg (by rw [LN.out]; omega)]
        have th : there n i = false := decide_eq_false hth
        obtain ⟨ri, hri⟩ : ∃ ri, idx n i = ri := ⟨_, rfl⟩
        rw [hri, th] at PL
        clear hth th hri
        clear hgt hs hs'
        go_enter Tryd.func13, Tryd.ntmps13
        go_wp2_with fail
        rw [HW1.out]
        obtain ⟨y1, y2, y3, y4⟩ := X.out w1 (Below.refl _ _)
        go_wp2_with fail
        go_at_call 29
        refine (RC.out w1 SL.out).mono ?_
        rintro e w2 ⟨rfl, hw2⟩
        obtain rfl := hw2.symm
        clear hw2
        go_wp2_with fail
        go_at_call 19
        refine (SC.out w1 H1.out).mono ?_
        rintro e w3 ⟨rfl, hb3⟩
        have H3 := Lib.hid (H1.out.keep hb3)
        have B3 := Lib.hid hb3
        clear hb3 y1 y2 y3 y4 H1
        obtain ⟨y1, y2, y3, y4⟩ := X.out w3 B3.out
        go_wp2_with fail
        go_at_call 18
        refine (KC.out w3 H3.out).mono ?_
        rintro e w4 ⟨rfl, hb4⟩
        have H4 := Lib.hid (H3.out.keep hb4)
        have B4 := Lib.hid (below_then B3.out hb4)
        clear hb4 y1 y2 y3 y4 H3 B3
        obtain ⟨y1, y2, y3, y4⟩ := X.out w4 B4.out
        skip
        go_wp2_with fail
        go_at_call 30
        refine (PL.out w4).mono ?_
        rintro e w5 ⟨rfl, hw5⟩
        obtain rfl := hw5.symm
        clear hw5
        go_wp2_with fail
        go_at_call 20
        refine (ATN.out w4 H4.out).mono ?_
        rintro e w6 ⟨rfl, hb6⟩
        have H6 := Lib.hid (H4.out.keep hb6)
        have B6 := Lib.hid (below_then B4.out hb6)
        clear hb6 y1 y2 y3 y4 H4 B4
        go_wp2_with fail
        obtain ⟨w7, hw7⟩ : ∃ w7, w6.alloc (.cells #[.string ⟨#[]⟩, .int .i64 0] 30) = w7 := ⟨_, rfl⟩
        have al7 : Below w6.heap.size w6 w7 := by rw [← hw7]; exact (Below.refl _ w6).alloc (Nat.le_refl _) _
        obtain ⟨b1, hb1⟩ : ∃ b1, w6.heap.size = b1 := ⟨_, rfl⟩
        have z0 : w7.cell? ⟨b1, 0, none⟩ = some (.string ⟨#[]⟩) := by rw [← hw7, ← hb1, World.cell?_alloc_new]; rfl
        have z1 : w7.cell? ⟨b1, 1, none⟩ = some (.int .i64 0) := by rw [← hw7, ← hb1, World.cell?_alloc_new]; rfl
        have H7 := Lib.hid (H6.out.keep al7)
        have B7 := Lib.hid (below_then B6.out al7)
        rw [hw7, hb1]
        clear hw7 al7 hb1 H6 B6
        skip
        have ne := run_neq_same
        go_quiet (fail)
        obtain ⟨w8, hw8⟩ : ∃ w8, w7.drewN nq = w8 := ⟨_, rfl⟩
        have H8 : Hid (SSt w0 w8 p l) := by show SSt _ _ _ _; rw [← hw8]; exact H7.out.keep (below_drewN _ _ _)
        have B8 : Hid (Below w1.heap.size w1 w8) := by show Below _ _ _; rw [← hw8]; exact below_then B7.out (below_drewN _ _ _)
        rw [hw8]
        clear hw8 H7 B7 z0 z1 ne
        have SL8 := Lib.hid (SL.out.keep B8.out)
        go_wp2_with fail
        go_loopw [16] (fun u wr => ∃ q : Nat, q ≤ T ∧ u = .int .i64 (q : Int) ∧ Below w8.heap.size w8 wr) (fun u _ => n - (intOf u).toNat)
        case atStart => exact ⟨0, Nat.zero_le _, rfl, Below.refl _ _⟩
        case round =>
          obtain ⟨q, hq, rfl, hbr⟩ := hrel
          have q0 : (0 : Int) ≤ (q : Int) := by omega
          have HQ := Lib.hid hq
          have BR := Lib.hid (below_then B8.out hbr)
          have BR8 := Lib.hid hbr
          have HR := Lib.hid (H8.out.keep hbr)
          have SLR := Lib.hid (SL8.out.keep hbr)
          clear hbr hq
          obtain ⟨y1, y2, y3, y4⟩ := X.out wr BR.out
          by_cases hqn : q < n
          · have q1 : (q : Int) < (n : Int) := by omega
            have g1 : decide ((q : Int) < (n : Int)) = true := decide_eq_true q1
            have g2 : decide (q < n) = true := decide_eq_true hqn
            have hql : q < l.length := by rw [LN.out]; exact hqn
            have ti := TI.out q hql
            obtain ⟨nq', hnq⟩ : ∃ nq' : ByteArray, (⟨l[q].1.toArray⟩ : ByteArray) = nq' := ⟨_, rfl⟩
            obtain ⟨uq, huq⟩ : ∃ uq, l[q].2 = uq := ⟨_, rfl⟩
            have eq : l[q] = (nq'.data.toList, uq) := by rw [← hnq, ← huq]
            obtain ⟨a', ea', -, -, c1⟩ := row_cells SLR.out q hql eq
            injection ea' with ea'
            subst ea'
            rw [huq] at ti
            have HQN := Lib.hid hqn
            clear hnq huq eq hql
            by_cases hqT : q < T
            · have d1 : decide (uq < x) = true := decide_eq_true (ti.2 hqT)
              have d2 : uq < x := ti.2 hqT
              have HQT := Lib.hid hqT
              clear ti hqT hqn
              go_wp2_with fail
              go_quiet (fail)
              go_wp2_with fail
              exact ⟨⟨q + 1, HQT.out, by go_num, BR8.out.trans (below_drewN _ _ _)⟩, by have := HQN.out; simp [intOf]; omega⟩
            · obtain rfl : q = T := by have := HQ.out; omega
              have d1 : decide (uq < x) = false := decide_eq_false (fun h => hqT (ti.1 h))
              have d2 : ¬ uq < x := fun h => hqT (ti.1 h)
              have d3 : x ≤ uq := by omega
              clear ti hqT hqn
              go_wp2_with fail
              go_quiet (fail)
              go_wp2_with fail
              obtain ⟨wq, hwq⟩ : ∃ wq, wr.drewN nq = wq := ⟨_, rfl⟩
              have HQ9 : Hid (SSt w0 wq p l) := by show SSt _ _ _ _; rw [← hwq]; exact HR.out.keep (below_drewN _ _ _)
              have BQ : Hid (Below w1.heap.size w1 wq) := by show Below _ _ _; rw [← hwq]; exact below_then BR.out (below_drewN _ _ _)
              try rw [hwq]
              clear hwq y1 y2 y3 y4
              have SLQ := Lib.hid (SL.out.keep BQ.out)
              obtain ⟨y1, y2, y3, y4⟩ := X.out wq BQ.out
              go_wp2_with fail
              go_at_call 31
              refine (PS.out wq).mono ?_
              rintro e w9 ⟨rfl, hw9⟩
              obtain rfl := hw9.symm
              clear hw9
              obtain ⟨a2, ha2⟩ : ∃ a2, (if c = fr then some a else some (a.add (fr * 2))) = some a2 := by split <;> exact ⟨_, rfl⟩
              have HA2 := Lib.hid ha2
              have S0 : Hid (∀ W, Below wq.heap.size wq W → Below wq.heap.size wq W ∧ W.cell? ⟨w.heap.size, 1, none⟩ = some (.int .i64 i) ∧ W.cell? ⟨w.heap.size, 2, none⟩ = some (.int .i64 j) ∧ W.cell? ⟨w.heap.size, 4, none⟩ = some (.int .i64 x)) := fun W hW => by
                obtain ⟨a1, a2, a3, a4⟩ := X.out W (below_then BQ.out hW)
                exact ⟨hW, a1, a2, a4⟩
              have S1 : Hid (Below wq.heap.size wq wq.drew ∧ wq.drew.cell? ⟨w.heap.size, 1, none⟩ = some (.int .i64 i) ∧ wq.drew.cell? ⟨w.heap.size, 2, none⟩ = some (.int .i64 j) ∧ wq.drew.cell? ⟨w.heap.size, 4, none⟩ = some (.int .i64 x)) := S0.out _ ((Below.refl _ wq).drew)
              have KEEP : Hid (∀ W W', Below W.heap.size W W' → (Below wq.heap.size wq W ∧ W.cell? ⟨w.heap.size, 1, none⟩ = some (.int .i64 i) ∧ W.cell? ⟨w.heap.size, 2, none⟩ = some (.int .i64 j) ∧ W.cell? ⟨w.heap.size, 4, none⟩ = some (.int .i64 x)) → (Below wq.heap.size wq W' ∧ W'.cell? ⟨w.heap.size, 1, none⟩ = some (.int .i64 i) ∧ W'.cell? ⟨w.heap.size, 2, none⟩ = some (.int .i64 j) ∧ W'.cell? ⟨w.heap.size, 4, none⟩ = some (.int .i64 x))) := fun W W' hb h => S0.out _ (below_then h.1 hb)
              have BC : Hid (∀ W, (Below wq.heap.size wq W ∧ W.cell? ⟨w.heap.size, 1, none⟩ = some (.int .i64 i) ∧ W.cell? ⟨w.heap.size, 2, none⟩ = some (.int .i64 j) ∧ W.cell? ⟨w.heap.size, 4, none⟩ = some (.int .i64 x)) → Calls Tryd.prog 21 #[.pointer (some p), .int .i64 x] W fun e w' => e = .returned (.int .i64 (q : Int)) ∧ Below W.heap.size W w') := fun W h => BLW.out W (HQ9.out.keep h.1)
              have RG : Hid (∀ W, (Below wq.heap.size wq W ∧ W.cell? ⟨w.heap.size, 1, none⟩ = some (.int .i64 i) ∧ W.cell? ⟨w.heap.size, 2, none⟩ = some (.int .i64 j) ∧ W.cell? ⟨w.heap.size, 4, none⟩ = some (.int .i64 x)) → Calls Tryd.prog 24 #[.pointer (some p), .int .i64 i, .int .i64 j] W fun e w' => (∃ v', e = .returned v' ∧ SList w' v' (SkM.cut l i j)) ∧ Below W.heap.size W w') := fun W h => RGW.out W (HQ9.out.keep h.1)
              have SCO : Hid (∀ W vr, SList W vr (SkM.cut l i j) → (Below wq.heap.size wq W ∧ W.cell? ⟨w.heap.size, 1, none⟩ = some (.int .i64 i) ∧ W.cell? ⟨w.heap.size, 2, none⟩ = some (.int .i64 j) ∧ W.cell? ⟨w.heap.size, 4, none⟩ = some (.int .i64 x)) → Calls Tryd.prog 16 #[vr, .slice (some a2) (to - fr) (c - fr)] W fun e w' => e = .returned (.bool true) ∧ Below W.heap.size W w') := fun W vr hv h => scores_any W vr _ _ hv (by have := sl_mid (SLQ.out.keep h.1) fr to CUT.out.2.1 (by have := LN.out; have := CUT.out.2.2; omega); rw [← CUT.out.1, HA2.out] at this; exact this) CL.out
              clear y1 y2 y3 y4
              go_wp2_with fail
              go_region_held3 (fun W => Below wq.heap.size wq W ∧ W.cell? ⟨w.heap.size, 1, none⟩ = some (.int .i64 i) ∧ W.cell? ⟨w.heap.size, 2, none⟩ = some (.int .i64 j) ∧ W.cell? ⟨w.heap.size, 4, none⟩ = some (.int .i64 x)) (first | exact S1.out | exact KEEP.out _ _ (by assumption) (by assumption) | assumption) (first
                | (go_at_call 21; with_reducible refine (BC.out _ (by assumption)).mono ?_; rintro e wb ⟨rfl, hb⟩)
                | (go_at_call 24; with_reducible refine (RG.out _ (by assumption)).mono ?_; rintro e wc ⟨⟨vr, rfl, hsr⟩, hb⟩)
                | (go_at_call 16; with_reducible refine (SCO.out _ _ (by assumption) (by assumption)).mono ?_; rintro e wd ⟨rfl, hb⟩))
              have SE : Below wq.heap.size wq wd ∧ wd.cell? ⟨w.heap.size, 1, none⟩ = some (.int .i64 i) ∧ wd.cell? ⟨w.heap.size, 2, none⟩ = some (.int .i64 j) ∧ wd.cell? ⟨w.heap.size, 4, none⟩ = some (.int .i64 x) := by assumption
              have BE := Lib.hid (below_then AL1.out (below_then BQ.out SE.1))
              clear SE S0 S1 KEEP BC RG SCO
              go_wp2_with fail
              go_ret
              exact ⟨rfl, BE.out⟩
          · obtain rfl : q = n := by have := HQ.out; have := TN.out; omega
            have qT : Hid (q = T) := by show q = T; have := HQ.out; have := TN.out; omega
            have g1 : decide ((q : Int) < (q : Int)) = false := decide_eq_false (by omega)
            have g2 : decide (q < q) = false := decide_eq_false hqn
            obtain rfl := qT.out
            clear hqn qT
            go_wp2_with fail
            go_quiet (fail)
            go_wp2_with fail
            obtain ⟨wq, hwq⟩ : ∃ wq, wr.drewN nq = wq := ⟨_, rfl⟩
            have HQ9 : Hid (SSt w0 wq p l) := by show SSt _ _ _ _; rw [← hwq]; exact HR.out.keep (below_drewN _ _ _)
            have BQ : Hid (Below w1.heap.size w1 wq) := by show Below _ _ _; rw [← hwq]; exact below_then BR.out (below_drewN _ _ _)
            try rw [hwq]
            clear hwq y1 y2 y3 y4
            have SLQ := Lib.hid (SL.out.keep BQ.out)
            obtain ⟨y1, y2, y3, y4⟩ := X.out wq BQ.out
            go_wp2_with fail
            go_at_call 31
            refine (PS.out wq).mono ?_
            rintro e w9 ⟨rfl, hw9⟩
            obtain rfl := hw9.symm
            clear hw9
            obtain ⟨a2, ha2⟩ : ∃ a2, (if c = fr then some a else some (a.add (fr * 2))) = some a2 := by split <;> exact ⟨_, rfl⟩
            have HA2 := Lib.hid ha2
            have S0 : Hid (∀ W, Below wq.heap.size wq W → Below wq.heap.size wq W ∧ W.cell? ⟨w.heap.size, 1, none⟩ = some (.int .i64 i) ∧ W.cell? ⟨w.heap.size, 2, none⟩ = some (.int .i64 j) ∧ W.cell? ⟨w.heap.size, 4, none⟩ = some (.int .i64 x)) := fun W hW => by
              obtain ⟨a1, a2, a3, a4⟩ := X.out W (below_then BQ.out hW)
              exact ⟨hW, a1, a2, a4⟩
            have S1 : Hid (Below wq.heap.size wq wq.drew ∧ wq.drew.cell? ⟨w.heap.size, 1, none⟩ = some (.int .i64 i) ∧ wq.drew.cell? ⟨w.heap.size, 2, none⟩ = some (.int .i64 j) ∧ wq.drew.cell? ⟨w.heap.size, 4, none⟩ = some (.int .i64 x)) := S0.out _ ((Below.refl _ wq).drew)
            have KEEP : Hid (∀ W W', Below W.heap.size W W' → (Below wq.heap.size wq W ∧ W.cell? ⟨w.heap.size, 1, none⟩ = some (.int .i64 i) ∧ W.cell? ⟨w.heap.size, 2, none⟩ = some (.int .i64 j) ∧ W.cell? ⟨w.heap.size, 4, none⟩ = some (.int .i64 x)) → (Below wq.heap.size wq W' ∧ W'.cell? ⟨w.heap.size, 1, none⟩ = some (.int .i64 i) ∧ W'.cell? ⟨w.heap.size, 2, none⟩ = some (.int .i64 j) ∧ W'.cell? ⟨w.heap.size, 4, none⟩ = some (.int .i64 x))) := fun W W' hb h => S0.out _ (below_then h.1 hb)
            have BC : Hid (∀ W, (Below wq.heap.size wq W ∧ W.cell? ⟨w.heap.size, 1, none⟩ = some (.int .i64 i) ∧ W.cell? ⟨w.heap.size, 2, none⟩ = some (.int .i64 j) ∧ W.cell? ⟨w.heap.size, 4, none⟩ = some (.int .i64 x)) → Calls Tryd.prog 21 #[.pointer (some p), .int .i64 x] W fun e w' => e = .returned (.int .i64 (q : Int)) ∧ Below W.heap.size W w') := fun W h => BLW.out W (HQ9.out.keep h.1)
            have RG : Hid (∀ W, (Below wq.heap.size wq W ∧ W.cell? ⟨w.heap.size, 1, none⟩ = some (.int .i64 i) ∧ W.cell? ⟨w.heap.size, 2, none⟩ = some (.int .i64 j) ∧ W.cell? ⟨w.heap.size, 4, none⟩ = some (.int .i64 x)) → Calls Tryd.prog 24 #[.pointer (some p), .int .i64 i, .int .i64 j] W fun e w' => (∃ v', e = .returned v' ∧ SList w' v' (SkM.cut l i j)) ∧ Below W.heap.size W w') := fun W h => RGW.out W (HQ9.out.keep h.1)
            have SCO : Hid (∀ W vr, SList W vr (SkM.cut l i j) → (Below wq.heap.size wq W ∧ W.cell? ⟨w.heap.size, 1, none⟩ = some (.int .i64 i) ∧ W.cell? ⟨w.heap.size, 2, none⟩ = some (.int .i64 j) ∧ W.cell? ⟨w.heap.size, 4, none⟩ = some (.int .i64 x)) → Calls Tryd.prog 16 #[vr, .slice (some a2) (to - fr) (c - fr)] W fun e w' => e = .returned (.bool true) ∧ Below W.heap.size W w') := fun W vr hv h => scores_any W vr _ _ hv (by have := sl_mid (SLQ.out.keep h.1) fr to CUT.out.2.1 (by have := LN.out; have := CUT.out.2.2; omega); rw [← CUT.out.1, HA2.out] at this; exact this) CL.out
            clear y1 y2 y3 y4
            go_wp2_with fail
            go_region_held3 (fun W => Below wq.heap.size wq W ∧ W.cell? ⟨w.heap.size, 1, none⟩ = some (.int .i64 i) ∧ W.cell? ⟨w.heap.size, 2, none⟩ = some (.int .i64 j) ∧ W.cell? ⟨w.heap.size, 4, none⟩ = some (.int .i64 x)) (first | exact S1.out | exact KEEP.out _ _ (by assumption) (by assumption) | assumption) (first
              | (go_at_call 21; with_reducible refine (BC.out _ (by assumption)).mono ?_; rintro e wb ⟨rfl, hb⟩)
              | (go_at_call 24; with_reducible refine (RG.out _ (by assumption)).mono ?_; rintro e wc ⟨⟨vr, rfl, hsr⟩, hb⟩)
              | (go_at_call 16; with_reducible refine (SCO.out _ _ (by assumption) (by assumption)).mono ?_; rintro e wd ⟨rfl, hb⟩))
            have SE : Below wq.heap.size wq wd ∧ wd.cell? ⟨w.heap.size, 1, none⟩ = some (.int .i64 i) ∧ wd.cell? ⟨w.heap.size, 2, none⟩ = some (.int .i64 j) ∧ wd.cell? ⟨w.heap.size, 4, none⟩ = some (.int .i64 x) := by assumption
            have BE := Lib.hid (below_then AL1.out (below_then BQ.out SE.1))
            clear SE S0 S1 KEEP BC RG SCO
            go_wp2_with fail
            go_ret
            exact ⟨rfl, BE.out⟩
    | some y =>
      obtain ⟨k, hkl, hke⟩ := List.getElem_of_mem ((SkM.get_some OK.out.names).1 hgt)
      have HKL := Lib.hid hkl
      have HKE := Lib.hid hke
      have k0 : (0 : Int) ≤ (k : Int) := by omega
      have kn : (k : Int) < (n : Int) := by have := LN.out; omega
      have kc : (k : Int) < (c : Int) := by omega
      have rk := rank_is OK.out k hkl
      rw [hke] at rk
      have RC : Hid (∀ W, SList W (.slice (some a) n c) l → Calls Tryd.prog 29 #[.slice (some a) n c, .string s] W fun e w' => e = .returned (.int .i64 (k : Int)) ∧ w' = W) := fun W hW => by
        have := rank_ref W _ l hW (by have := LN.out; have := N9.out; omega) s
        rw [hgt, rk] at this
        exact this
      have SC : Hid (∀ W, SSt w0 W p l → Calls Tryd.prog 19 #[.pointer (some p), .string s] W fun e w' => e = .returned (.tuple #[.int .i64 y, .bool true]) ∧ Below W.heap.size W w') := fun W hW => by
        obtain ⟨⟨G, hsr, -⟩, -⟩ := hW
        have := rscore hsr s hs'
        rw [hgt] at this
        exact this
      have KC : Hid (∀ W, SSt w0 W p l → Calls Tryd.prog 18 #[.pointer (some p), .string s] W fun e w' => e = .returned (.tuple #[.int .i64 (k : Int), .bool true]) ∧ Below W.heap.size W w') := fun W hW => by
        obtain ⟨⟨G, hsr, -⟩, -⟩ := hW
        have := rrank hsr s hs'
        rw [hgt, rk] at this
        exact this
      clear hke rk
      by_cases hth : 0 ≤ idx n i ∧ idx n i < (n : Int)
      · obtain ⟨r, hr, hrl⟩ : ∃ r : Nat, idx n i = (r : Int) ∧ r < l.length := ⟨(idx n i).toNat, by omega, by have := hth.2; have := LN.out; omega⟩
        have r0 : (0 : Int) ≤ (r : Int) := by omega
        have rn : (r : Int) < (n : Int) := by have := LN.out; omega
        have rc : (r : Int) < (c : Int) := by omega
        obtain ⟨nm, hnm⟩ : ∃ nm : ByteArray, (⟨l[r].1.toArray⟩ : ByteArray) = nm := ⟨_, rfl⟩
        obtain ⟨u, hu⟩ : ∃ u, l[r].2 = u := ⟨_, rfl⟩
        have HRL := Lib.hid hrl
        have HRE : Hid (l[r] = (nm.data.toList, u)) := by show l[r] = (nm.data.toList, u); rw [← hnm, ← hu] <;> rfl
        have ATC : Hid (∀ W, SSt w0 W p l → Calls Tryd.prog 20 #[.pointer (some p), .int .i64 i] W fun e w' => e = .returned (.tuple #[.agg #[.string nm, .int .i64 u], .bool true]) ∧ Below W.heap.size W w') := fun W hW => by
          obtain ⟨⟨G, hsr, -⟩, -⟩ := hW
          refine (rat hsr i i0 i1).mono ?_
          rintro e w' ⟨rfl, hb⟩
          refine ⟨?_, hb⟩
          have hr' : idx l.length i = (r : Int) := by rw [LN.out]; exact hr
          rw [dif_pos ⟨by omega, by omega⟩]
          have k : (idx l.length i).toNat = r := by omega
          simp only [k, hnm, hu]
        have th : there n i = true := decide_eq_true hth
        rw [hr, th] at PL
        clear hth th hr hnm hu
        clear hgt hs hs'
        go_enter Tryd.func13, Tryd.ntmps13
        go_wp2_with fail
        rw [HW1.out]
        obtain ⟨y1, y2, y3, y4⟩ := X.out w1 (Below.refl _ _)
        go_wp2_with fail
        go_at_call 29
        refine (RC.out w1 SL.out).mono ?_
        rintro e w2 ⟨rfl, hw2⟩
        obtain rfl := hw2.symm
        clear hw2
        go_wp2_with fail
        go_at_call 19
        refine (SC.out w1 H1.out).mono ?_
        rintro e w3 ⟨rfl, hb3⟩
        have H3 := Lib.hid (H1.out.keep hb3)
        have B3 := Lib.hid hb3
        clear hb3 y1 y2 y3 y4 H1
        obtain ⟨y1, y2, y3, y4⟩ := X.out w3 B3.out
        go_wp2_with fail
        go_at_call 18
        refine (KC.out w3 H3.out).mono ?_
        rintro e w4 ⟨rfl, hb4⟩
        have H4 := Lib.hid (H3.out.keep hb4)
        have B4 := Lib.hid (below_then B3.out hb4)
        clear hb4 y1 y2 y3 y4 H3 B3
        obtain ⟨y1, y2, y3, y4⟩ := X.out w4 B4.out
        have SLK := Lib.hid (SL.out.keep B4.out)
        obtain ⟨a', ea', -, -, ck1⟩ := row_cells SLK.out k HKL.out HKE.out
        injection ea' with ea'
        subst ea'
        clear SLK
        go_wp2_with fail
        go_at_call 30
        refine (PL.out w4).mono ?_
        rintro e w5 ⟨rfl, hw5⟩
        obtain rfl := hw5.symm
        clear hw5
        go_wp2_with fail
        go_at_call 20
        refine (ATC.out w4 H4.out).mono ?_
        rintro e w6 ⟨rfl, hb6⟩
        have H6 := Lib.hid (H4.out.keep hb6)
        have B6 := Lib.hid (below_then B4.out hb6)
        clear hb6 y1 y2 y3 y4 H4 B4 ck1
        go_wp2_with fail
        obtain ⟨w7, hw7⟩ : ∃ w7, w6.alloc (.cells #[.string nm, .int .i64 u] 30) = w7 := ⟨_, rfl⟩
        have al7 : Below w6.heap.size w6 w7 := by rw [← hw7]; exact (Below.refl _ w6).alloc (Nat.le_refl _) _
        obtain ⟨b1, hb1⟩ : ∃ b1, w6.heap.size = b1 := ⟨_, rfl⟩
        have z0 : w7.cell? ⟨b1, 0, none⟩ = some (.string nm) := by rw [← hw7, ← hb1, World.cell?_alloc_new]; rfl
        have z1 : w7.cell? ⟨b1, 1, none⟩ = some (.int .i64 u) := by rw [← hw7, ← hb1, World.cell?_alloc_new]; rfl
        have H7 := Lib.hid (H6.out.keep al7)
        have B7 := Lib.hid (below_then B6.out al7)
        rw [hw7, hb1]
        clear hw7 al7 hb1 H6 B6
        have SLQ7 := Lib.hid (SL.out.keep B7.out)
        obtain ⟨a', ea', -, f0, f1⟩ := row_cells SLQ7.out r HRL.out HRE.out
        injection ea' with ea'
        subst ea'
        clear SLQ7
        have ne := run_neq_same
        go_quiet (fail)
        obtain ⟨w8, hw8⟩ : ∃ w8, w7.drewN nq = w8 := ⟨_, rfl⟩
        have H8 : Hid (SSt w0 w8 p l) := by show SSt _ _ _ _; rw [← hw8]; exact H7.out.keep (below_drewN _ _ _)
        have B8 : Hid (Below w1.heap.size w1 w8) := by show Below _ _ _; rw [← hw8]; exact below_then B7.out (below_drewN _ _ _)
        rw [hw8]
        clear hw8 H7 B7 z0 z1 ne f0 f1
        have SL8 := Lib.hid (SL.out.keep B8.out)
        go_wp2_with fail
        go_loopw [16] (fun u wr => ∃ q : Nat, q ≤ T ∧ u = .int .i64 (q : Int) ∧ Below w8.heap.size w8 wr) (fun u _ => n - (intOf u).toNat)
        case atStart => exact ⟨0, Nat.zero_le _, rfl, Below.refl _ _⟩
        case round =>
          obtain ⟨q, hq, rfl, hbr⟩ := hrel
          have q0 : (0 : Int) ≤ (q : Int) := by omega
          have HQ := Lib.hid hq
          have BR := Lib.hid (below_then B8.out hbr)
          have BR8 := Lib.hid hbr
          have HR := Lib.hid (H8.out.keep hbr)
          have SLR := Lib.hid (SL8.out.keep hbr)
          clear hbr hq
          obtain ⟨y1, y2, y3, y4⟩ := X.out wr BR.out
          by_cases hqn : q < n
          · have q1 : (q : Int) < (n : Int) := by omega
            have g1 : decide ((q : Int) < (n : Int)) = true := decide_eq_true q1
            have g2 : decide (q < n) = true := decide_eq_true hqn
            have hql : q < l.length := by rw [LN.out]; exact hqn
            have ti := TI.out q hql
            obtain ⟨nq', hnq⟩ : ∃ nq' : ByteArray, (⟨l[q].1.toArray⟩ : ByteArray) = nq' := ⟨_, rfl⟩
            obtain ⟨uq, huq⟩ : ∃ uq, l[q].2 = uq := ⟨_, rfl⟩
            have eq : l[q] = (nq'.data.toList, uq) := by rw [← hnq, ← huq]
            obtain ⟨a', ea', -, -, c1⟩ := row_cells SLR.out q hql eq
            injection ea' with ea'
            subst ea'
            rw [huq] at ti
            have HQN := Lib.hid hqn
            clear hnq huq eq hql
            by_cases hqT : q < T
            · have d1 : decide (uq < x) = true := decide_eq_true (ti.2 hqT)
              have d2 : uq < x := ti.2 hqT
              have HQT := Lib.hid hqT
              clear ti hqT hqn
              go_wp2_with fail
              go_quiet (fail)
              go_wp2_with fail
              exact ⟨⟨q + 1, HQT.out, by go_num, BR8.out.trans (below_drewN _ _ _)⟩, by have := HQN.out; simp [intOf]; omega⟩
            · obtain rfl : q = T := by have := HQ.out; omega
              have d1 : decide (uq < x) = false := decide_eq_false (fun h => hqT (ti.1 h))
              have d2 : ¬ uq < x := fun h => hqT (ti.1 h)
              have d3 : x ≤ uq := by omega
              clear ti hqT hqn
              go_wp2_with fail
              go_quiet (fail)
              go_wp2_with fail
              obtain ⟨wq, hwq⟩ : ∃ wq, wr.drewN nq = wq := ⟨_, rfl⟩
              have HQ9 : Hid (SSt w0 wq p l) := by show SSt _ _ _ _; rw [← hwq]; exact HR.out.keep (below_drewN _ _ _)
              have BQ : Hid (Below w1.heap.size w1 wq) := by show Below _ _ _; rw [← hwq]; exact below_then BR.out (below_drewN _ _ _)
              try rw [hwq]
              clear hwq y1 y2 y3 y4
              have SLQ := Lib.hid (SL.out.keep BQ.out)
              obtain ⟨y1, y2, y3, y4⟩ := X.out wq BQ.out
              go_wp2_with fail
              go_at_call 31
              refine (PS.out wq).mono ?_
              rintro e w9 ⟨rfl, hw9⟩
              obtain rfl := hw9.symm
              clear hw9
              obtain ⟨a2, ha2⟩ : ∃ a2, (if c = fr then some a else some (a.add (fr * 2))) = some a2 := by split <;> exact ⟨_, rfl⟩
              have HA2 := Lib.hid ha2
              have S0 : Hid (∀ W, Below wq.heap.size wq W → Below wq.heap.size wq W ∧ W.cell? ⟨w.heap.size, 1, none⟩ = some (.int .i64 i) ∧ W.cell? ⟨w.heap.size, 2, none⟩ = some (.int .i64 j) ∧ W.cell? ⟨w.heap.size, 4, none⟩ = some (.int .i64 x)) := fun W hW => by
                obtain ⟨a1, a2, a3, a4⟩ := X.out W (below_then BQ.out hW)
                exact ⟨hW, a1, a2, a4⟩
              have S1 : Hid (Below wq.heap.size wq wq.drew ∧ wq.drew.cell? ⟨w.heap.size, 1, none⟩ = some (.int .i64 i) ∧ wq.drew.cell? ⟨w.heap.size, 2, none⟩ = some (.int .i64 j) ∧ wq.drew.cell? ⟨w.heap.size, 4, none⟩ = some (.int .i64 x)) := S0.out _ ((Below.refl _ wq).drew)
              have KEEP : Hid (∀ W W', Below W.heap.size W W' → (Below wq.heap.size wq W ∧ W.cell? ⟨w.heap.size, 1, none⟩ = some (.int .i64 i) ∧ W.cell? ⟨w.heap.size, 2, none⟩ = some (.int .i64 j) ∧ W.cell? ⟨w.heap.size, 4, none⟩ = some (.int .i64 x)) → (Below wq.heap.size wq W' ∧ W'.cell? ⟨w.heap.size, 1, none⟩ = some (.int .i64 i) ∧ W'.cell? ⟨w.heap.size, 2, none⟩ = some (.int .i64 j) ∧ W'.cell? ⟨w.heap.size, 4, none⟩ = some (.int .i64 x))) := fun W W' hb h => S0.out _ (below_then h.1 hb)
              have BC : Hid (∀ W, (Below wq.heap.size wq W ∧ W.cell? ⟨w.heap.size, 1, none⟩ = some (.int .i64 i) ∧ W.cell? ⟨w.heap.size, 2, none⟩ = some (.int .i64 j) ∧ W.cell? ⟨w.heap.size, 4, none⟩ = some (.int .i64 x)) → Calls Tryd.prog 21 #[.pointer (some p), .int .i64 x] W fun e w' => e = .returned (.int .i64 (q : Int)) ∧ Below W.heap.size W w') := fun W h => BLW.out W (HQ9.out.keep h.1)
              have RG : Hid (∀ W, (Below wq.heap.size wq W ∧ W.cell? ⟨w.heap.size, 1, none⟩ = some (.int .i64 i) ∧ W.cell? ⟨w.heap.size, 2, none⟩ = some (.int .i64 j) ∧ W.cell? ⟨w.heap.size, 4, none⟩ = some (.int .i64 x)) → Calls Tryd.prog 24 #[.pointer (some p), .int .i64 i, .int .i64 j] W fun e w' => (∃ v', e = .returned v' ∧ SList w' v' (SkM.cut l i j)) ∧ Below W.heap.size W w') := fun W h => RGW.out W (HQ9.out.keep h.1)
              have SCO : Hid (∀ W vr, SList W vr (SkM.cut l i j) → (Below wq.heap.size wq W ∧ W.cell? ⟨w.heap.size, 1, none⟩ = some (.int .i64 i) ∧ W.cell? ⟨w.heap.size, 2, none⟩ = some (.int .i64 j) ∧ W.cell? ⟨w.heap.size, 4, none⟩ = some (.int .i64 x)) → Calls Tryd.prog 16 #[vr, .slice (some a2) (to - fr) (c - fr)] W fun e w' => e = .returned (.bool true) ∧ Below W.heap.size W w') := fun W vr hv h => scores_any W vr _ _ hv (by have := sl_mid (SLQ.out.keep h.1) fr to CUT.out.2.1 (by have := LN.out; have := CUT.out.2.2; omega); rw [← CUT.out.1, HA2.out] at this; exact this) CL.out
              clear y1 y2 y3 y4
              go_wp2_with fail
              go_region_held3 (fun W => Below wq.heap.size wq W ∧ W.cell? ⟨w.heap.size, 1, none⟩ = some (.int .i64 i) ∧ W.cell? ⟨w.heap.size, 2, none⟩ = some (.int .i64 j) ∧ W.cell? ⟨w.heap.size, 4, none⟩ = some (.int .i64 x)) (first | exact S1.out | exact KEEP.out _ _ (by assumption) (by assumption) | assumption) (first
                | (go_at_call 21; with_reducible refine (BC.out _ (by assumption)).mono ?_; rintro e wb ⟨rfl, hb⟩)
                | (go_at_call 24; with_reducible refine (RG.out _ (by assumption)).mono ?_; rintro e wc ⟨⟨vr, rfl, hsr⟩, hb⟩)
                | (go_at_call 16; with_reducible refine (SCO.out _ _ (by assumption) (by assumption)).mono ?_; rintro e wd ⟨rfl, hb⟩))
              have SE : Below wq.heap.size wq wd ∧ wd.cell? ⟨w.heap.size, 1, none⟩ = some (.int .i64 i) ∧ wd.cell? ⟨w.heap.size, 2, none⟩ = some (.int .i64 j) ∧ wd.cell? ⟨w.heap.size, 4, none⟩ = some (.int .i64 x) := by assumption
              have BE := Lib.hid (below_then AL1.out (below_then BQ.out SE.1))
              clear SE S0 S1 KEEP BC RG SCO
              go_wp2_with fail
              go_ret
              exact ⟨rfl, BE.out⟩
          · obtain rfl : q = n := by have := HQ.out; have := TN.out; omega
            have qT : Hid (q = T) := by show q = T; have := HQ.out; have := TN.out; omega
            have g1 : decide ((q : Int) < (q : Int)) = false := decide_eq_false (by omega)
            have g2 : decide (q < q) = false := decide_eq_false hqn
            obtain rfl := qT.out
            clear hqn qT
            go_wp2_with fail
            go_quiet (fail)
            go_wp2_with fail
            obtain ⟨wq, hwq⟩ : ∃ wq, wr.drewN nq = wq := ⟨_, rfl⟩
            have HQ9 : Hid (SSt w0 wq p l) := by show SSt _ _ _ _; rw [← hwq]; exact HR.out.keep (below_drewN _ _ _)
            have BQ : Hid (Below w1.heap.size w1 wq) := by show Below _ _ _; rw [← hwq]; exact below_then BR.out (below_drewN _ _ _)
            try rw [hwq]
            clear hwq y1 y2 y3 y4
            have SLQ := Lib.hid (SL.out.keep BQ.out)
            obtain ⟨y1, y2, y3, y4⟩ := X.out wq BQ.out
            go_wp2_with fail
            go_at_call 31
            refine (PS.out wq).mono ?_
            rintro e w9 ⟨rfl, hw9⟩
            obtain rfl := hw9.symm
            clear hw9
            obtain ⟨a2, ha2⟩ : ∃ a2, (if c = fr then some a else some (a.add (fr * 2))) = some a2 := by split <;> exact ⟨_, rfl⟩
            have HA2 := Lib.hid ha2
            have S0 : Hid (∀ W, Below wq.heap.size wq W → Below wq.heap.size wq W ∧ W.cell? ⟨w.heap.size, 1, none⟩ = some (.int .i64 i) ∧ W.cell? ⟨w.heap.size, 2, none⟩ = some (.int .i64 j) ∧ W.cell? ⟨w.heap.size, 4, none⟩ = some (.int .i64 x)) := fun W hW => by
              obtain ⟨a1, a2, a3, a4⟩ := X.out W (below_then BQ.out hW)
              exact ⟨hW, a1, a2, a4⟩
            have S1 : Hid (Below wq.heap.size wq wq.drew ∧ wq.drew.cell? ⟨w.heap.size, 1, none⟩ = some (.int .i64 i) ∧ wq.drew.cell? ⟨w.heap.size, 2, none⟩ = some (.int .i64 j) ∧ wq.drew.cell? ⟨w.heap.size, 4, none⟩ = some (.int .i64 x)) := S0.out _ ((Below.refl _ wq).drew)
            have KEEP : Hid (∀ W W', Below W.heap.size W W' → (Below wq.heap.size wq W ∧ W.cell? ⟨w.heap.size, 1, none⟩ = some (.int .i64 i) ∧ W.cell? ⟨w.heap.size, 2, none⟩ = some (.int .i64 j) ∧ W.cell? ⟨w.heap.size, 4, none⟩ = some (.int .i64 x)) → (Below wq.heap.size wq W' ∧ W'.cell? ⟨w.heap.size, 1, none⟩ = some (.int .i64 i) ∧ W'.cell? ⟨w.heap.size, 2, none⟩ = some (.int .i64 j) ∧ W'.cell? ⟨w.heap.size, 4, none⟩ = some (.int .i64 x))) := fun W W' hb h => S0.out _ (below_then h.1 hb)
            have BC : Hid (∀ W, (Below wq.heap.size wq W ∧ W.cell? ⟨w.heap.size, 1, none⟩ = some (.int .i64 i) ∧ W.cell? ⟨w.heap.size, 2, none⟩ = some (.int .i64 j) ∧ W.cell? ⟨w.heap.size, 4, none⟩ = some (.int .i64 x)) → Calls Tryd.prog 21 #[.pointer (some p), .int .i64 x] W fun e w' => e = .returned (.int .i64 (q : Int)) ∧ Below W.heap.size W w') := fun W h => BLW.out W (HQ9.out.keep h.1)
            have RG : Hid (∀ W, (Below wq.heap.size wq W ∧ W.cell? ⟨w.heap.size, 1, none⟩ = some (.int .i64 i) ∧ W.cell? ⟨w.heap.size, 2, none⟩ = some (.int .i64 j) ∧ W.cell? ⟨w.heap.size, 4, none⟩ = some (.int .i64 x)) → Calls Tryd.prog 24 #[.pointer (some p), .int .i64 i, .int .i64 j] W fun e w' => (∃ v', e = .returned v' ∧ SList w' v' (SkM.cut l i j)) ∧ Below W.heap.size W w') := fun W h => RGW.out W (HQ9.out.keep h.1)
            have SCO : Hid (∀ W vr, SList W vr (SkM.cut l i j) → (Below wq.heap.size wq W ∧ W.cell? ⟨w.heap.size, 1, none⟩ = some (.int .i64 i) ∧ W.cell? ⟨w.heap.size, 2, none⟩ = some (.int .i64 j) ∧ W.cell? ⟨w.heap.size, 4, none⟩ = some (.int .i64 x)) → Calls Tryd.prog 16 #[vr, .slice (some a2) (to - fr) (c - fr)] W fun e w' => e = .returned (.bool true) ∧ Below W.heap.size W w') := fun W vr hv h => scores_any W vr _ _ hv (by have := sl_mid (SLQ.out.keep h.1) fr to CUT.out.2.1 (by have := LN.out; have := CUT.out.2.2; omega); rw [← CUT.out.1, HA2.out] at this; exact this) CL.out
            clear y1 y2 y3 y4
            go_wp2_with fail
            go_region_held3 (fun W => Below wq.heap.size wq W ∧ W.cell? ⟨w.heap.size, 1, none⟩ = some (.int .i64 i) ∧ W.cell? ⟨w.heap.size, 2, none⟩ = some (.int .i64 j) ∧ W.cell? ⟨w.heap.size, 4, none⟩ = some (.int .i64 x)) (first | exact S1.out | exact KEEP.out _ _ (by assumption) (by assumption) | assumption) (first
              | (go_at_call 21; with_reducible refine (BC.out _ (by assumption)).mono ?_; rintro e wb ⟨rfl, hb⟩)
              | (go_at_call 24; with_reducible refine (RG.out _ (by assumption)).mono ?_; rintro e wc ⟨⟨vr, rfl, hsr⟩, hb⟩)
              | (go_at_call 16; with_reducible refine (SCO.out _ _ (by assumption) (by assumption)).mono ?_; rintro e wd ⟨rfl, hb⟩))
            have SE : Below wq.heap.size wq wd ∧ wd.cell? ⟨w.heap.size, 1, none⟩ = some (.int .i64 i) ∧ wd.cell? ⟨w.heap.size, 2, none⟩ = some (.int .i64 j) ∧ wd.cell? ⟨w.heap.size, 4, none⟩ = some (.int .i64 x) := by assumption
            have BE := Lib.hid (below_then AL1.out (below_then BQ.out SE.1))
            clear SE S0 S1 KEEP BC RG SCO
            go_wp2_with fail
            go_ret
            exact ⟨rfl, BE.out⟩
      · have ATN : Hid (∀ W, SSt w0 W p l → Calls Tryd.prog 20 #[.pointer (some p), .int .i64 i] W fun e w' => e = .returned (.tuple #[.agg #[.string ⟨#[]⟩, .int .i64 0], .bool false]) ∧ Below W.heap.size W w') := fun W hW => by
          obtain ⟨⟨G, hsr, -⟩, -⟩ := hW
          refine (rat hsr i i0 i1).mono ?_
          rintro e w' ⟨rfl, hb⟩
          refine ⟨?_, hb⟩
          rw [dif_neg (by rw [LN.out]; omega)]
        have th : there n i = false := decide_eq_false hth
        obtain ⟨ri, hri⟩ : ∃ ri, idx n i = ri := ⟨_, rfl⟩
        rw [hri, th] at PL
        clear hth th hri
        clear hgt hs hs'
        go_enter Tryd.func13, Tryd.ntmps13
        go_wp2_with fail
        rw [HW1.out]
        obtain ⟨y1, y2, y3, y4⟩ := X.out w1 (Below.refl _ _)
        go_wp2_with fail
        go_at_call 29
        refine (RC.out w1 SL.out).mono ?_
        rintro e w2 ⟨rfl, hw2⟩
        obtain rfl := hw2.symm
        clear hw2
        go_wp2_with fail
        go_at_call 19
        refine (SC.out w1 H1.out).mono ?_
        rintro e w3 ⟨rfl, hb3⟩
        have H3 := Lib.hid (H1.out.keep hb3)
        have B3 := Lib.hid hb3
        clear hb3 y1 y2 y3 y4 H1
        obtain ⟨y1, y2, y3, y4⟩ := X.out w3 B3.out
        go_wp2_with fail
        go_at_call 18
        refine (KC.out w3 H3.out).mono ?_
        rintro e w4 ⟨rfl, hb4⟩
        have H4 := Lib.hid (H3.out.keep hb4)
        have B4 := Lib.hid (below_then B3.out hb4)
        clear hb4 y1 y2 y3 y4 H3 B3
        obtain ⟨y1, y2, y3, y4⟩ := X.out w4 B4.out
        have SLK := Lib.hid (SL.out.keep B4.out)
        obtain ⟨a', ea', -, -, ck1⟩ := row_cells SLK.out k HKL.out HKE.out
        injection ea' with ea'
        subst ea'
        clear SLK
        go_wp2_with fail
        go_at_call 30
        refine (PL.out w4).mono ?_
        rintro e w5 ⟨rfl, hw5⟩
        obtain rfl := hw5.symm
        clear hw5
        go_wp2_with fail
        go_at_call 20
        refine (ATN.out w4 H4.out).mono ?_
        rintro e w6 ⟨rfl, hb6⟩
        have H6 := Lib.hid (H4.out.keep hb6)
        have B6 := Lib.hid (below_then B4.out hb6)
        clear hb6 y1 y2 y3 y4 H4 B4 ck1
        go_wp2_with fail
        obtain ⟨w7, hw7⟩ : ∃ w7, w6.alloc (.cells #[.string ⟨#[]⟩, .int .i64 0] 30) = w7 := ⟨_, rfl⟩
        have al7 : Below w6.heap.size w6 w7 := by rw [← hw7]; exact (Below.refl _ w6).alloc (Nat.le_refl _) _
        obtain ⟨b1, hb1⟩ : ∃ b1, w6.heap.size = b1 := ⟨_, rfl⟩
        have z0 : w7.cell? ⟨b1, 0, none⟩ = some (.string ⟨#[]⟩) := by rw [← hw7, ← hb1, World.cell?_alloc_new]; rfl
        have z1 : w7.cell? ⟨b1, 1, none⟩ = some (.int .i64 0) := by rw [← hw7, ← hb1, World.cell?_alloc_new]; rfl
        have H7 := Lib.hid (H6.out.keep al7)
        have B7 := Lib.hid (below_then B6.out al7)
        rw [hw7, hb1]
        clear hw7 al7 hb1 H6 B6
        skip
        have ne := run_neq_same
        go_quiet (fail)
        obtain ⟨w8, hw8⟩ : ∃ w8, w7.drewN nq = w8 := ⟨_, rfl⟩
        have H8 : Hid (SSt w0 w8 p l) := by show SSt _ _ _ _; rw [← hw8]; exact H7.out.keep (below_drewN _ _ _)
        have B8 : Hid (Below w1.heap.size w1 w8) := by show Below _ _ _; rw [← hw8]; exact below_then B7.out (below_drewN _ _ _)
        rw [hw8]
        clear hw8 H7 B7 z0 z1 ne
        have SL8 := Lib.hid (SL.out.keep B8.out)
        go_wp2_with fail
        go_loopw [16] (fun u wr => ∃ q : Nat, q ≤ T ∧ u = .int .i64 (q : Int) ∧ Below w8.heap.size w8 wr) (fun u _ => n - (intOf u).toNat)
        case atStart => exact ⟨0, Nat.zero_le _, rfl, Below.refl _ _⟩
        case round =>
          obtain ⟨q, hq, rfl, hbr⟩ := hrel
          have q0 : (0 : Int) ≤ (q : Int) := by omega
          have HQ := Lib.hid hq
          have BR := Lib.hid (below_then B8.out hbr)
          have BR8 := Lib.hid hbr
          have HR := Lib.hid (H8.out.keep hbr)
          have SLR := Lib.hid (SL8.out.keep hbr)
          clear hbr hq
          obtain ⟨y1, y2, y3, y4⟩ := X.out wr BR.out
          by_cases hqn : q < n
          · have q1 : (q : Int) < (n : Int) := by omega
            have g1 : decide ((q : Int) < (n : Int)) = true := decide_eq_true q1
            have g2 : decide (q < n) = true := decide_eq_true hqn
            have hql : q < l.length := by rw [LN.out]; exact hqn
            have ti := TI.out q hql
            obtain ⟨nq', hnq⟩ : ∃ nq' : ByteArray, (⟨l[q].1.toArray⟩ : ByteArray) = nq' := ⟨_, rfl⟩
            obtain ⟨uq, huq⟩ : ∃ uq, l[q].2 = uq := ⟨_, rfl⟩
            have eq : l[q] = (nq'.data.toList, uq) := by rw [← hnq, ← huq]
            obtain ⟨a', ea', -, -, c1⟩ := row_cells SLR.out q hql eq
            injection ea' with ea'
            subst ea'
            rw [huq] at ti
            have HQN := Lib.hid hqn
            clear hnq huq eq hql
            by_cases hqT : q < T
            · have d1 : decide (uq < x) = true := decide_eq_true (ti.2 hqT)
              have d2 : uq < x := ti.2 hqT
              have HQT := Lib.hid hqT
              clear ti hqT hqn
              go_wp2_with fail
              go_quiet (fail)
              go_wp2_with fail
              exact ⟨⟨q + 1, HQT.out, by go_num, BR8.out.trans (below_drewN _ _ _)⟩, by have := HQN.out; simp [intOf]; omega⟩
            · obtain rfl : q = T := by have := HQ.out; omega
              have d1 : decide (uq < x) = false := decide_eq_false (fun h => hqT (ti.1 h))
              have d2 : ¬ uq < x := fun h => hqT (ti.1 h)
              have d3 : x ≤ uq := by omega
              clear ti hqT hqn
              go_wp2_with fail
              go_quiet (fail)
              go_wp2_with fail
              obtain ⟨wq, hwq⟩ : ∃ wq, wr.drewN nq = wq := ⟨_, rfl⟩
              have HQ9 : Hid (SSt w0 wq p l) := by show SSt _ _ _ _; rw [← hwq]; exact HR.out.keep (below_drewN _ _ _)
              have BQ : Hid (Below w1.heap.size w1 wq) := by show Below _ _ _; rw [← hwq]; exact below_then BR.out (below_drewN _ _ _)
              try rw [hwq]
              clear hwq y1 y2 y3 y4
              have SLQ := Lib.hid (SL.out.keep BQ.out)
              obtain ⟨y1, y2, y3, y4⟩ := X.out wq BQ.out
              go_wp2_with fail
              go_at_call 31
              refine (PS.out wq).mono ?_
              rintro e w9 ⟨rfl, hw9⟩
              obtain rfl := hw9.symm
              clear hw9
              obtain ⟨a2, ha2⟩ : ∃ a2, (if c = fr then some a else some (a.add (fr * 2))) = some a2 := by split <;> exact ⟨_, rfl⟩
              have HA2 := Lib.hid ha2
              have S0 : Hid (∀ W, Below wq.heap.size wq W → Below wq.heap.size wq W ∧ W.cell? ⟨w.heap.size, 1, none⟩ = some (.int .i64 i) ∧ W.cell? ⟨w.heap.size, 2, none⟩ = some (.int .i64 j) ∧ W.cell? ⟨w.heap.size, 4, none⟩ = some (.int .i64 x)) := fun W hW => by
                obtain ⟨a1, a2, a3, a4⟩ := X.out W (below_then BQ.out hW)
                exact ⟨hW, a1, a2, a4⟩
              have S1 : Hid (Below wq.heap.size wq wq.drew ∧ wq.drew.cell? ⟨w.heap.size, 1, none⟩ = some (.int .i64 i) ∧ wq.drew.cell? ⟨w.heap.size, 2, none⟩ = some (.int .i64 j) ∧ wq.drew.cell? ⟨w.heap.size, 4, none⟩ = some (.int .i64 x)) := S0.out _ ((Below.refl _ wq).drew)
              have KEEP : Hid (∀ W W', Below W.heap.size W W' → (Below wq.heap.size wq W ∧ W.cell? ⟨w.heap.size, 1, none⟩ = some (.int .i64 i) ∧ W.cell? ⟨w.heap.size, 2, none⟩ = some (.int .i64 j) ∧ W.cell? ⟨w.heap.size, 4, none⟩ = some (.int .i64 x)) → (Below wq.heap.size wq W' ∧ W'.cell? ⟨w.heap.size, 1, none⟩ = some (.int .i64 i) ∧ W'.cell? ⟨w.heap.size, 2, none⟩ = some (.int .i64 j) ∧ W'.cell? ⟨w.heap.size, 4, none⟩ = some (.int .i64 x))) := fun W W' hb h => S0.out _ (below_then h.1 hb)
              have BC : Hid (∀ W, (Below wq.heap.size wq W ∧ W.cell? ⟨w.heap.size, 1, none⟩ = some (.int .i64 i) ∧ W.cell? ⟨w.heap.size, 2, none⟩ = some (.int .i64 j) ∧ W.cell? ⟨w.heap.size, 4, none⟩ = some (.int .i64 x)) → Calls Tryd.prog 21 #[.pointer (some p), .int .i64 x] W fun e w' => e = .returned (.int .i64 (q : Int)) ∧ Below W.heap.size W w') := fun W h => BLW.out W (HQ9.out.keep h.1)
              have RG : Hid (∀ W, (Below wq.heap.size wq W ∧ W.cell? ⟨w.heap.size, 1, none⟩ = some (.int .i64 i) ∧ W.cell? ⟨w.heap.size, 2, none⟩ = some (.int .i64 j) ∧ W.cell? ⟨w.heap.size, 4, none⟩ = some (.int .i64 x)) → Calls Tryd.prog 24 #[.pointer (some p), .int .i64 i, .int .i64 j] W fun e w' => (∃ v', e = .returned v' ∧ SList w' v' (SkM.cut l i j)) ∧ Below W.heap.size W w') := fun W h => RGW.out W (HQ9.out.keep h.1)
              have SCO : Hid (∀ W vr, SList W vr (SkM.cut l i j) → (Below wq.heap.size wq W ∧ W.cell? ⟨w.heap.size, 1, none⟩ = some (.int .i64 i) ∧ W.cell? ⟨w.heap.size, 2, none⟩ = some (.int .i64 j) ∧ W.cell? ⟨w.heap.size, 4, none⟩ = some (.int .i64 x)) → Calls Tryd.prog 16 #[vr, .slice (some a2) (to - fr) (c - fr)] W fun e w' => e = .returned (.bool true) ∧ Below W.heap.size W w') := fun W vr hv h => scores_any W vr _ _ hv (by have := sl_mid (SLQ.out.keep h.1) fr to CUT.out.2.1 (by have := LN.out; have := CUT.out.2.2; omega); rw [← CUT.out.1, HA2.out] at this; exact this) CL.out
              clear y1 y2 y3 y4
              go_wp2_with fail
              go_region_held3 (fun W => Below wq.heap.size wq W ∧ W.cell? ⟨w.heap.size, 1, none⟩ = some (.int .i64 i) ∧ W.cell? ⟨w.heap.size, 2, none⟩ = some (.int .i64 j) ∧ W.cell? ⟨w.heap.size, 4, none⟩ = some (.int .i64 x)) (first | exact S1.out | exact KEEP.out _ _ (by assumption) (by assumption) | assumption) (first
                | (go_at_call 21; with_reducible refine (BC.out _ (by assumption)).mono ?_; rintro e wb ⟨rfl, hb⟩)
                | (go_at_call 24; with_reducible refine (RG.out _ (by assumption)).mono ?_; rintro e wc ⟨⟨vr, rfl, hsr⟩, hb⟩)
                | (go_at_call 16; with_reducible refine (SCO.out _ _ (by assumption) (by assumption)).mono ?_; rintro e wd ⟨rfl, hb⟩))
              have SE : Below wq.heap.size wq wd ∧ wd.cell? ⟨w.heap.size, 1, none⟩ = some (.int .i64 i) ∧ wd.cell? ⟨w.heap.size, 2, none⟩ = some (.int .i64 j) ∧ wd.cell? ⟨w.heap.size, 4, none⟩ = some (.int .i64 x) := by assumption
              have BE := Lib.hid (below_then AL1.out (below_then BQ.out SE.1))
              clear SE S0 S1 KEEP BC RG SCO
              go_wp2_with fail
              go_ret
              exact ⟨rfl, BE.out⟩
          · obtain rfl : q = n := by have := HQ.out; have := TN.out; omega
            have qT : Hid (q = T) := by show q = T; have := HQ.out; have := TN.out; omega
            have g1 : decide ((q : Int) < (q : Int)) = false := decide_eq_false (by omega)
            have g2 : decide (q < q) = false := decide_eq_false hqn
            obtain rfl := qT.out
            clear hqn qT
            go_wp2_with fail
            go_quiet (fail)
            go_wp2_with fail
            obtain ⟨wq, hwq⟩ : ∃ wq, wr.drewN nq = wq := ⟨_, rfl⟩
            have HQ9 : Hid (SSt w0 wq p l) := by show SSt _ _ _ _; rw [← hwq]; exact HR.out.keep (below_drewN _ _ _)
            have BQ : Hid (Below w1.heap.size w1 wq) := by show Below _ _ _; rw [← hwq]; exact below_then BR.out (below_drewN _ _ _)
            try rw [hwq]
            clear hwq y1 y2 y3 y4
            have SLQ := Lib.hid (SL.out.keep BQ.out)
            obtain ⟨y1, y2, y3, y4⟩ := X.out wq BQ.out
            go_wp2_with fail
            go_at_call 31
            refine (PS.out wq).mono ?_
            rintro e w9 ⟨rfl, hw9⟩
            obtain rfl := hw9.symm
            clear hw9
            obtain ⟨a2, ha2⟩ : ∃ a2, (if c = fr then some a else some (a.add (fr * 2))) = some a2 := by split <;> exact ⟨_, rfl⟩
            have HA2 := Lib.hid ha2
            have S0 : Hid (∀ W, Below wq.heap.size wq W → Below wq.heap.size wq W ∧ W.cell? ⟨w.heap.size, 1, none⟩ = some (.int .i64 i) ∧ W.cell? ⟨w.heap.size, 2, none⟩ = some (.int .i64 j) ∧ W.cell? ⟨w.heap.size, 4, none⟩ = some (.int .i64 x)) := fun W hW => by
              obtain ⟨a1, a2, a3, a4⟩ := X.out W (below_then BQ.out hW)
              exact ⟨hW, a1, a2, a4⟩
            have S1 : Hid (Below wq.heap.size wq wq.drew ∧ wq.drew.cell? ⟨w.heap.size, 1, none⟩ = some (.int .i64 i) ∧ wq.drew.cell? ⟨w.heap.size, 2, none⟩ = some (.int .i64 j) ∧ wq.drew.cell? ⟨w.heap.size, 4, none⟩ = some (.int .i64 x)) := S0.out _ ((Below.refl _ wq).drew)
            have KEEP : Hid (∀ W W', Below W.heap.size W W' → (Below wq.heap.size wq W ∧ W.cell? ⟨w.heap.size, 1, none⟩ = some (.int .i64 i) ∧ W.cell? ⟨w.heap.size, 2, none⟩ = some (.int .i64 j) ∧ W.cell? ⟨w.heap.size, 4, none⟩ = some (.int .i64 x)) → (Below wq.heap.size wq W' ∧ W'.cell? ⟨w.heap.size, 1, none⟩ = some (.int .i64 i) ∧ W'.cell? ⟨w.heap.size, 2, none⟩ = some (.int .i64 j) ∧ W'.cell? ⟨w.heap.size, 4, none⟩ = some (.int .i64 x))) := fun W W' hb h => S0.out _ (below_then h.1 hb)
            have BC : Hid (∀ W, (Below wq.heap.size wq W ∧ W.cell? ⟨w.heap.size, 1, none⟩ = some (.int .i64 i) ∧ W.cell? ⟨w.heap.size, 2, none⟩ = some (.int .i64 j) ∧ W.cell? ⟨w.heap.size, 4, none⟩ = some (.int .i64 x)) → Calls Tryd.prog 21 #[.pointer (some p), .int .i64 x] W fun e w' => e = .returned (.int .i64 (q : Int)) ∧ Below W.heap.size W w') := fun W h => BLW.out W (HQ9.out.keep h.1)
            have RG : Hid (∀ W, (Below wq.heap.size wq W ∧ W.cell? ⟨w.heap.size, 1, none⟩ = some (.int .i64 i) ∧ W.cell? ⟨w.heap.size, 2, none⟩ = some (.int .i64 j) ∧ W.cell? ⟨w.heap.size, 4, none⟩ = some (.int .i64 x)) → Calls Tryd.prog 24 #[.pointer (some p), .int .i64 i, .int .i64 j] W fun e w' => (∃ v', e = .returned v' ∧ SList w' v' (SkM.cut l i j)) ∧ Below W.heap.size W w') := fun W h => RGW.out W (HQ9.out.keep h.1)
            have SCO : Hid (∀ W vr, SList W vr (SkM.cut l i j) → (Below wq.heap.size wq W ∧ W.cell? ⟨w.heap.size, 1, none⟩ = some (.int .i64 i) ∧ W.cell? ⟨w.heap.size, 2, none⟩ = some (.int .i64 j) ∧ W.cell? ⟨w.heap.size, 4, none⟩ = some (.int .i64 x)) → Calls Tryd.prog 16 #[vr, .slice (some a2) (to - fr) (c - fr)] W fun e w' => e = .returned (.bool true) ∧ Below W.heap.size W w') := fun W vr hv h => scores_any W vr _ _ hv (by have := sl_mid (SLQ.out.keep h.1) fr to CUT.out.2.1 (by have := LN.out; have := CUT.out.2.2; omega); rw [← CUT.out.1, HA2.out] at this; exact this) CL.out
            clear y1 y2 y3 y4
            go_wp2_with fail
            go_region_held3 (fun W => Below wq.heap.size wq W ∧ W.cell? ⟨w.heap.size, 1, none⟩ = some (.int .i64 i) ∧ W.cell? ⟨w.heap.size, 2, none⟩ = some (.int .i64 j) ∧ W.cell? ⟨w.heap.size, 4, none⟩ = some (.int .i64 x)) (first | exact S1.out | exact KEEP.out _ _ (by assumption) (by assumption) | assumption) (first
              | (go_at_call 21; with_reducible refine (BC.out _ (by assumption)).mono ?_; rintro e wb ⟨rfl, hb⟩)
              | (go_at_call 24; with_reducible refine (RG.out _ (by assumption)).mono ?_; rintro e wc ⟨⟨vr, rfl, hsr⟩, hb⟩)
              | (go_at_call 16; with_reducible refine (SCO.out _ _ (by assumption) (by assumption)).mono ?_; rintro e wd ⟨rfl, hb⟩))
            have SE : Below wq.heap.size wq wd ∧ wd.cell? ⟨w.heap.size, 1, none⟩ = some (.int .i64 i) ∧ wd.cell? ⟨w.heap.size, 2, none⟩ = some (.int .i64 j) ∧ wd.cell? ⟨w.heap.size, 4, none⟩ = some (.int .i64 x) := by assumption
            have BE := Lib.hid (below_then AL1.out (below_then BQ.out SE.1))
            clear SE S0 S1 KEEP BC RG SCO
            go_wp2_with fail
            go_ret
            exact ⟨rfl, BE.out⟩
end Go.Proofs.YtopnbfhkfagemaaDoor
