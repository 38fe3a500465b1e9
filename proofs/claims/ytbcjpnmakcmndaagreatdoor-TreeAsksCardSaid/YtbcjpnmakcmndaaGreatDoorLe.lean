/- The document's own answer: Same. -/
import Derived.Test.YtbcjpnmakcmndaaGreatDoorLd
import Derived.Test.YtbcjpnmakcmndaaGreatDoorKv
import Derived.Deep.RegionHeld3
import Derived.Deep.CutRange
namespace Go.Proofs.YtbcjpnmakcmndaaGreatDoor
open Go.RowKit PrM
set_option linter.unusedVariables false
set_option linter.unusedSimpArgs false
def RSamE (l : X) : Prop := ∀ (m : X) (w : World) (P Q : Nat → Prop) (v u : Value), m.fit 100000 → Sl l.len (Rd w P l).row 7 v → Sl m.len (Rd w Q m).row 7 u → Calls Tryz.prog 28 #[v, u] w (SR (l.same m) w)
def RSamS (l : X) : Prop := ∀ (m : X) (w : World) (P Q : Nat → Prop) (v u : Value), m.fit 100000 → Sl l.len (Rd w P l).row 5 v → Sl m.len (Rd w Q m).row 5 u → Calls Tryz.prog 12 #[v, u] w (SR (l.same m) w)
def SamQ (x : X) : Prop := x.fit 100000 → match x with
 | .e _ _ _ _ _ l f => RSamE l ∧ ∀ y ∈ f.elems, ∀ ps b, y = .f ps b → RSamS b
 | .f _ b => RSamS b
 | .s _ _ _ l b => RSamE l ∧ ∀ y ∈ b.elems, ∀ m, y = .blk m → RSamS m
 | .blk m => RSamS m
 | _ => True
theorem tkB {P : Program} {ops : Array Oper} {Q : Exit → Act → World → Prop} {md : Region.Mode} {S : World → Prop} {fuel : Nat} {listed l' : Array Bool} {a a' : Act} {w : World} {oi : Oper} {v : Value} (i : Nat) (hS : S w)
  (h : wpAnyH P md ops Q S fuel l' a' w) (hi : ops[i]? = some oi := by simp only [List.getElem?_toArray, List.getElem?_cons_succ, List.getElem?_cons_zero]; exact rfl)
  (hs : Region.noSelect ops = true := by kernel_rfl) (hf : Region.free md ops listed i = true := by kernel_rfl) (hr : (Region.ready md ops listed).contains i = true := by kernel_rfl)
  (hy : YieldsIf P ops S oi v a := by
   first
   | exact Or.inr ⟨by rfl, rfl⟩
   |(refine Or.inl ⟨by rfl, ?_⟩; intro W hSw; have kb := KB.out W hSw; go_simp; try with_reducible rfl))
  (hQ : ∀ c a w, Q (.panic c) (a.put oi.dst v) w → Q (.panic c) a w := by exact fun _ _ _ h => h)
  (hl : listed.setIfInBounds i true = l' := by (try simp only [List.setIfInBounds_toArray, List.set_cons_zero, List.set_cons_succ]); exact rfl)
  (ha : a.put oi.dst v = a' := by (try simp only [Act.put, List.setIfInBounds_toArray, List.set_cons_zero, List.set_cons_succ]); exact rfl) :
  wpAnyH P md ops Q S (fuel + 1) listed a w := by
 subst hl ha
 exact wpAnyH_take hi hs hf hr hQ hy hS h
theorem rdB {P : Program} {ops : Array Oper} {Q : Exit → Act → World → Prop} {md : Region.Mode} {S : World → Prop} {fuel : Nat} {listed : Array Bool} {a : Act} {w : World} {i : Nat} {o : Oper} {rs : List Nat}
  (h : ∀ K' : Act → World → Prop, Shut (∀ a w, S w → (S w → wpAnyH P md ops Q S fuel (listed.setIfInBounds i true) a w) → K' a w) → if Region.wanted o (yielded ops a.tmps) = true then Oper.wp P o a w K' Q else K' (a.put o.dst undef) w)
  (hs : AllReadyH P md ops Q S fuel listed a w rs) (ho : ops[i]? = some o := by simp only [List.getElem?_toArray, List.getElem?_cons_succ, List.getElem?_cons_zero]; exact rfl) : AllReadyH P md ops Q S fuel listed a w (i :: rs) := AllReadyH.cons ho h hs
theorem two_new (wr : World) (C : Array Value) (t : TypeId) : ∃ w2, w2 = ((wr.alloc (.cells C t)).alloc (.cells C t)).drew ∧ Blk w2 wr.heap.size C t ∧ Blk w2 (wr.heap.size + 1) C t ∧ Below wr.heap.size wr w2 := by
 have k1 := blk_al (.cells C t) (Blk.new wr C t)
 have k2 := Blk.new (wr.alloc (.cells C t)) C t
 rw [World.size_alloc] at k2
 exact ⟨_, rfl, k1, k2, ((al_below wr _).alloc (Nat.le_of_lt (al_lt wr _)) _).drew⟩
set_option maxRecDepth 20000 in
set_option maxHeartbeats 8000000 in
theorem rsam_e (w : World) (P Q : Nat → Prop) (x y : X) (A B : Option Addr) (n m c d : Nat) (h : Sl x.len (Rd w P x).row 7 (.slice A n c)) (h2 : Sl y.len (Rd w Q y).row 7 (.slice B m d)) (hb : x.fit 100000) (hb2 : y.fit 100000) (H : ∀ y ∈ x.elems, SamQ y) : Calls Tryz.prog 28 #[.slice A n c, .slice B m d] w (SR (x.same y) w) := by
 have HX := Lib.hid h
 have HY := Lib.hid h2
 have HQ := Lib.hid (fun y hy => H y hy (fit_elems x hb y hy))
 have HFE := Lib.hid (fit_elems x hb)
 have HFY := Lib.hid (fit_elems y hb2)
 have HN := Lib.hid (Sl.len h).1
 have HM := Lib.hid (Sl.len h2).1
 obtain ⟨R, hR⟩ : ∃ R, x.same y = R := ⟨_, rfl⟩
 have HE := Lib.hid (show R = sameL x.elems y.elems by rw [← hR]; exact sl_same h h2)
 rw [hR]
 have hn := X.fit_len x hb
 rw [← HN.out] at hn
 have n0 : (0 : Int) ≤ (n : Int) := by omega
 have n1 : (n : Int) ≤ 100000 := by omega
 clear h h2 H hb hb2 hR
 by_cases hnm : n = m
 ·subst hnm
  go_enter Tryz.func28, Tryz.ntmps28
  go_wp2_with fail
  go_loopw [5, 6, 7, 8] (fun u5 u6 u7 u8 wr => ∃ (i : Nat) (p6 p7 p8 : Value), u5 = .int .i64 (i : Int) ∧ u6 = p6 ∧ u7 = p7 ∧ u8 = p8 ∧ i ≤ n ∧ sameL (x.elems.take i) (y.elems.take i) = true ∧ Below w.heap.size w wr) (fun u5 _ _ _ _ => (n : Int).toNat - (intOf u5).toNat)
  case atStart => exact ⟨0, undef, undef, undef, rfl, rfl, rfl, rfl, Nat.zero_le _, rfl, Below.refl _ _⟩
  case round =>
   obtain ⟨i, p6, p7, p8, rfl, rfl, rfl, rfl, hi, hs, hbl⟩ := hrel
   have HB := Lib.hid hbl
   have HS := Lib.hid hs
   have i0 : (0 : Int) ≤ (i : Int) := by omega
   have wri : wrap64 ((i : Int) + 1) = (i : Int) + 1 := by unfold wrap64; omega
   clear hbl hs
   by_cases hlt : i < n
   ·obtain ⟨p, a, v0, v1, v2, v3, v4, v5, v6, rfl, ha, ⟨c0, c1, c2, c3, c4, c5, c6⟩, rda⟩ := Sl.at7 (Sl.bel HB.out HX.out) (by rw [← HN.out]; exact hlt)
    obtain ⟨q, b, e0, e1, e2, e3, e4, e5, e6, rfl, hb, ⟨d0, d1, d2, d3, d4, d5, d6⟩, rdb⟩ := Sl.at7 (Sl.bel HB.out HY.out) (by rw [← HM.out]; exact hlt)
    have hl1 : (i : Int) < (n : Int) := by omega
    have HLT := Lib.hid hlt
    have HA := Lib.hid ha
    have HBB := Lib.hid hb
    have RA := Lib.hid rda
    have RB := Lib.hid rdb
    have KB : Hid (∀ W, Below wr.heap.size wr W → (W.cell? (p.add (i * 7)) = some v0 ∧ W.cell? ⟨(p.add (i * 7)).block, (p.add (i * 7)).off + 1, none⟩ = some v1 ∧ W.cell? ⟨(p.add (i * 7)).block, (p.add (i * 7)).off + 2, none⟩ = some v2 ∧ W.cell? ⟨(p.add (i * 7)).block, (p.add (i * 7)).off + 3, none⟩ = some v3 ∧ W.cell? ⟨(p.add (i * 7)).block, (p.add (i * 7)).off + 4, none⟩ = some v4 ∧ W.cell? ⟨(p.add (i * 7)).block, (p.add (i * 7)).off + 5, none⟩ = some v5 ∧ W.cell? ⟨(p.add (i * 7)).block, (p.add (i * 7)).off + 6, none⟩ = some v6) ∧ W.cell? (q.add (i * 7)) = some e0 ∧ W.cell? ⟨(q.add (i * 7)).block, (q.add (i * 7)).off + 1, none⟩ = some e1 ∧ W.cell? ⟨(q.add (i * 7)).block, (q.add (i * 7)).off + 2, none⟩ = some e2 ∧ W.cell? ⟨(q.add (i * 7)).block, (q.add (i * 7)).off + 3, none⟩ = some e3 ∧ W.cell? ⟨(q.add (i * 7)).block, (q.add (i * 7)).off + 4, none⟩ = some e4 ∧ W.cell? ⟨(q.add (i * 7)).block, (q.add (i * 7)).off + 5, none⟩ = some e5 ∧ W.cell? ⟨(q.add (i * 7)).block, (q.add (i * 7)).off + 6, none⟩ = some e6) := Lib.hid (fun W b => ⟨⟨cell_in b c0, cell_in b c1, cell_in b c2, cell_in b c3, cell_in b c4, cell_in b c5, cell_in b c6⟩, cell_in b d0, cell_in b d1, cell_in b d2, cell_in b d3, cell_in b d4, cell_in b d5, cell_in b d6⟩)
    clear c0 c1 c2 c3 c4 c5 c6 d0 d1 d2 d3 d4 d5 d6 hi hlt ha hb rda rdb
    go_wp2_with fail
    go_cut [6, 7] from 20 to 27 (fun s6 s7 wx => ∃ bx by_ : Nat, s6 = .pointer (some ⟨bx, 0, none⟩) ∧ s7 = .pointer (some ⟨by_, 0, none⟩) ∧ Blk wx bx #[v0, v1, v2, v3, v4, v5, v6] 41 ∧ Blk wx by_ #[e0, e1, e2, e3, e4, e5, e6] 41 ∧ Below wr.heap.size wr wx)
    case first =>
     refine wp_region_held_drew (S := fun W => Below wr.heap.size wr W) (by kernel_rfl) (Below.refl wr.heap.size wr).drew (fun hH0 => ?_)
     refine tkB 0 hH0 ?_
     refine tkB 1 hH0 ?_
     refine tkB 2 hH0 ?_
     refine tkB 3 hH0 ?_
     refine tkB 4 hH0 ?_
     refine tkB 5 hH0 ?_
     refine tkB 6 hH0 ?_
     refine tkB 7 hH0 ?_
     refine wpAnyH_ready (rs := [8, 9]) (by kernel_rfl) (by simp) ?_
     obtain ⟨w2, hw2, k1, k2, B2⟩ := two_new wr Z7 41
     have K1 := Lib.hid k1
     have K2 := Lib.hid k2
     have BB2 := Lib.hid B2
     clear k1 k2 B2
     have OV := Lib.hid (onesN (Rd.one_cells _ _ RA.out))
     have OE := Lib.hid (onesN (Rd.one_cells _ _ RB.out))
     refine rdB (fun K hK => ?_) (rdB (fun K hK => ?_) AllReadyH.nil)
     ·rw [if_pos (by rfl)]
      go_wp2_with fail
      refine hK.out _ _ (al_below wr _).drew (fun hH1 => ?_)
      clear hK K
      try simp only [Act.put, List.setIfInBounds_toArray, List.set_cons_zero, List.set_cons_succ]
      refine wpAnyH_ready (rs := [9]) (by kernel_rfl) (by simp) ?_
      refine rdB (fun K hK => ?_) AllReadyH.nil
      rw [if_pos (by rfl)]
      go_wp2_with fail
      rw [← hw2]
      refine hK.out _ _ BB2.out (fun hH2 => ?_)
      clear hK K hw2
      try simp only [Act.put, List.setIfInBounds_toArray, List.set_cons_zero, List.set_cons_succ]
      refine wpAnyH_ready (rs := [10]) (by kernel_rfl) (by simp) ?_
      refine rdB (fun K hK => ?_) AllReadyH.nil
      rw [if_pos (by rfl)]
      refine wp_store_row 41 (.tmp 6) (.tmp 23) rfl wr.heap.size #[v0, v1, v2, v3, v4, v5, v6] rfl rfl 41 _ K1.out sizeE rfl OV.out ?_
      obtain ⟨w3, hw3, K3, o3⟩ := row7 (cs := #[v0, v1, v2, v3, v4, v5, v6]) K1.out
      rw [← hw3]
      have B3 := Lib.hid (BB2.out.trans (o3.out.below (B := wr.heap.size) (fun n e => by subst e; omega) BB2.out.size))
      have K4 := Lib.hid (K2.out.only o3.out (by omega))
      refine hK.out _ _ B3.out (fun hH3 => ?_)
      clear hK K hw3
      try simp only [Act.put, List.setIfInBounds_toArray, List.set_cons_zero, List.set_cons_succ]
      refine wpAnyH_ready (rs := [11]) (by kernel_rfl) (by simp) ?_
      refine rdB (fun K hK => ?_) AllReadyH.nil
      rw [if_pos (by rfl)]
      refine wp_store_row 41 (.tmp 7) (.tmp 27) rfl (wr.heap.size + 1) #[e0, e1, e2, e3, e4, e5, e6] rfl rfl 41 _ K4.out sizeE rfl OE.out ?_
      obtain ⟨w4, hw4, K5, o4⟩ := row7 (cs := #[e0, e1, e2, e3, e4, e5, e6]) K4.out
      rw [← hw4]
      have B4 := Lib.hid (B3.out.trans (o4.out.below (B := wr.heap.size) (fun n e => by subst e; omega) B3.out.size))
      have K6 := Lib.hid (K3.out.only o4.out (by omega))
      refine hK.out _ _ B4.out (fun hH4 => ?_)
      clear hK K hw4
      try simp only [Act.put, List.setIfInBounds_toArray, List.set_cons_zero, List.set_cons_succ]
      refine wpAnyH_done (by kernel_rfl) ?_ _
      go_wp2_with fail
      go_meet
      case rel => exact ⟨_, _, rfl, rfl, K6.out, K5.out, B4.out⟩
     ·rw [if_pos (by rfl)]
      go_wp2_with fail
      refine hK.out _ _ (al_below wr _).drew (fun hH1 => ?_)
      clear hK K
      try simp only [Act.put, List.setIfInBounds_toArray, List.set_cons_zero, List.set_cons_succ]
      refine wpAnyH_ready (rs := [8]) (by kernel_rfl) (by simp) ?_
      refine rdB (fun K hK => ?_) AllReadyH.nil
      rw [if_pos (by rfl)]
      go_wp2_with fail
      rw [← hw2]
      refine hK.out _ _ BB2.out (fun hH2 => ?_)
      clear hK K hw2
      try simp only [Act.put, List.setIfInBounds_toArray, List.set_cons_zero, List.set_cons_succ]
      refine wpAnyH_ready (rs := [10]) (by kernel_rfl) (by simp) ?_
      refine rdB (fun K hK => ?_) AllReadyH.nil
      rw [if_pos (by rfl)]
      refine wp_store_row 41 (.tmp 6) (.tmp 23) rfl (wr.heap.size + 1) #[v0, v1, v2, v3, v4, v5, v6] rfl rfl 41 _ K2.out sizeE rfl OV.out ?_
      obtain ⟨w3, hw3, K3, o3⟩ := row7 (cs := #[v0, v1, v2, v3, v4, v5, v6]) K2.out
      rw [← hw3]
      have B3 := Lib.hid (BB2.out.trans (o3.out.below (B := wr.heap.size) (fun n e => by subst e; omega) BB2.out.size))
      have K4 := Lib.hid (K1.out.only o3.out (by omega))
      refine hK.out _ _ B3.out (fun hH3 => ?_)
      clear hK K hw3
      try simp only [Act.put, List.setIfInBounds_toArray, List.set_cons_zero, List.set_cons_succ]
      refine wpAnyH_ready (rs := [11]) (by kernel_rfl) (by simp) ?_
      refine rdB (fun K hK => ?_) AllReadyH.nil
      rw [if_pos (by rfl)]
      refine wp_store_row 41 (.tmp 7) (.tmp 27) rfl wr.heap.size #[e0, e1, e2, e3, e4, e5, e6] rfl rfl 41 _ K4.out sizeE rfl OE.out ?_
      obtain ⟨w4, hw4, K5, o4⟩ := row7 (cs := #[e0, e1, e2, e3, e4, e5, e6]) K4.out
      rw [← hw4]
      have B4 := Lib.hid (B3.out.trans (o4.out.below (B := wr.heap.size) (fun n e => by subst e; omega) B3.out.size))
      have K6 := Lib.hid (K3.out.only o4.out (by omega))
      refine hK.out _ _ B4.out (fun hH4 => ?_)
      clear hK K hw4
      try simp only [Act.put, List.setIfInBounds_toArray, List.set_cons_zero, List.set_cons_succ]
      refine wpAnyH_done (by kernel_rfl) ?_ _
      go_wp2_with fail
      go_meet
      case rel => exact ⟨_, _, rfl, rfl, K6.out, K5.out, B4.out⟩
    case rest =>
     obtain ⟨bx, by_, rfl, rfl, kx, ky, bb⟩ := hcut
     have KX := Lib.hid kx
     have KY := Lib.hid ky
     have BC := Lib.hid (HB.out.trans (bb.mono HB.out.size))
     have RA2 := Lib.hid (Rd.bel bb RA.out)
     have RB2 := Lib.hid (Rd.bel bb RB.out)
     clear KB bb kx ky RA RB
     obtain ⟨k, ac, nn, sv, op, l, f, v5', v6', rfl, hv, sl, sf⟩ := Rd.is_e RA2.out rfl
     obtain ⟨k', ac', nn', sv', op', l', f', e5', e6', rfl, he, sl2, sf2⟩ := Rd.is_e RB2.out rfl
     simp only [Array.mk.injEq, List.cons.injEq, and_true] at hv he
     obtain ⟨rfl, rfl, rfl, rfl, rfl, rfl, rfl⟩ := hv
     obtain ⟨rfl, rfl, rfl, rfl, rfl, rfl, rfl⟩ := he
     obtain ⟨A5, c5, rfl⟩ := sl_slice sl
     obtain ⟨A6, mf, c6, rfl, hmf⟩ := sl_slice2 sf
     obtain ⟨B5, d5, rfl⟩ := sl_slice sl2
     obtain ⟨B6, mg, d6, rfl, hmg⟩ := sl_slice2 sf2
     have QY := HQ.out _ (List.mem_of_getElem? HA.out)
     have FA := HFE.out _ (List.mem_of_getElem? HA.out)
     have FB := HFY.out _ (List.mem_of_getElem? HBB.out)
     have HL := Lib.hid (fun W (b : Below wc.heap.size wc W) => QY.1 l' W P Q _ _ FB.1.1 (Sl.bel b sl) (Sl.bel b sl2))
     have Q2 := Lib.hid QY.2
     have SF := Lib.hid sf
     have SG := Lib.hid sf2
     have HMF := Lib.hid hmf
     have HMG := Lib.hid hmg
     have FF2 := Lib.hid (fit_elems f' FB.1.2)
     have FM := Lib.hid (show mf ≤ 100000 by rw [hmf]; exact X.fit_len f FA.1.2)
     have EQ := Lib.hid (show (X.e k ac nn sv op l f).same (X.e k' ac' nn' sv' op' l' f') = (decide (k = k') && (decide (ac = ac') && (decide (nn = nn') && (decide (sv = sv') && (decide (op = op') && (l.same l' && f.same f')))))) from rfl)
     have NO := Lib.hid (fun q => sameL_at x.elems y.elems i _ _ HA.out HBB.out q)
     have GO := Lib.hid (sameL_take x.elems y.elems i _ _ HA.out HBB.out)
     generalize (X.e k ac nn sv op l f).same (X.e k' ac' nn' sv' op' l' f') = S at *
     have SFF := Lib.hid (show f.same f' = sameL f.elems f'.elems from sl_same sf sf2)
     obtain ⟨r1, hr1⟩ : ∃ r, l.same l' = r := ⟨_, rfl⟩
     rw [hr1] at HL EQ
     obtain ⟨r2, hr2⟩ : ∃ r, f.same f' = r := ⟨_, rfl⟩
     rw [hr2] at EQ SFF
     obtain ⟨⟨x0, x1, x2, x3, x4, x5, x6⟩, -⟩ := KX.out.seven
     obtain ⟨⟨y0, y1, y2, y3, y4, y5, y6⟩, -⟩ := KY.out.seven
     have BX := Lib.hid (Below.refl wc.heap.size wc)
     clear QY FA FB sl sl2 sf sf2 hmf hmg RA2 RB2 hr1 hr2
     by_cases qk : k = k'
     ·skip
      by_cases qac : ac = ac'
      ·skip
       by_cases qnn : nn = nn'
       ·skip
        by_cases qsv : sv = sv'
        ·skip
         by_cases qop : op = op'
         ·skip
          subst qk qac qnn qsv qop
          cases r1 with
          | false =>
           have HR := Lib.hid (show R = false by rw [HE.out]; exact NO.out (by rw [EQ.out]; simp))
           go_wp2_with (first | (go_at_call 28; refine (HL.out _ BX.out).mono ?_; rintro en w5 ⟨rfl, b5⟩; have BX5 := Lib.hid b5; have KX5 := Lib.hid (KX.out.below b5 KX.out.lt); have KY5 := Lib.hid (KY.out.below b5 KY.out.lt); clear b5; obtain ⟨⟨x0, x1, x2, x3, x4, x5, x6⟩, -⟩ := KX5.out.seven; obtain ⟨⟨y0, y1, y2, y3, y4, y5, y6⟩, -⟩ := KY5.out.seven))
           go_ret
           exact ⟨by rw [HR.out]; rfl, BC.out.trans (BX5.out.mono BC.out.size)⟩
          | true =>
           by_cases hmm : mf = mg
           ·subst hmm
            have ES := Lib.hid (show S = r2 by rw [EQ.out]; simp)
            clear EQ
            go_wp2_with (first | (go_at_call 28; refine (HL.out _ BX.out).mono ?_; rintro en w5 ⟨rfl, b5⟩; have BX5 := Lib.hid b5; have KX5 := Lib.hid (KX.out.below b5 KX.out.lt); have KY5 := Lib.hid (KY.out.below b5 KY.out.lt); clear b5; obtain ⟨⟨x0, x1, x2, x3, x4, x5, x6⟩, -⟩ := KX5.out.seven; obtain ⟨⟨y0, y1, y2, y3, y4, y5, y6⟩, -⟩ := KY5.out.seven))
            go_loopw [8] (fun ub wi => ∃ k : Nat, ub = .int .i64 (k : Int) ∧ k ≤ mf ∧ sameL (f.elems.take k) (f'.elems.take k) = true ∧ Below wc.heap.size wc wi) (fun ub _ => mf - (intOf ub).toNat)
            case atStart => exact ⟨0, rfl, Nat.zero_le _, rfl, BX5.out⟩
            case round =>
             obtain ⟨k2, rfl, hk, hsk, hbl⟩ := hrel
             have BI := Lib.hid hbl
             have HSK := Lib.hid hsk
             clear hbl hsk
             obtain ⟨⟨x0, x1, x2, x3, x4, x5, x6⟩, -⟩ := (KX.out.below BI.out KX.out.lt).seven
             obtain ⟨⟨y0, y1, y2, y3, y4, y5, y6⟩, -⟩ := (KY.out.below BI.out KY.out.lt).seven
             have k0 : (0 : Int) ≤ (k2 : Int) := by omega
             have fl := FM.out
             have m1 : (mf : Int) ≤ 100000 := by omega
             have wk : wrap64 ((k2 : Int) + 1) = (k2 : Int) + 1 := by unfold wrap64; omega
             clear fl
             by_cases hlk : k2 < mf
             ·obtain ⟨g, z, t0, t1, rfl, hz, ⟨h0, h1⟩, rz⟩ := Sl.at2 (Sl.bel BI.out SF.out) (by rw [← HMF.out]; exact hlk)
              obtain ⟨g', z', t0', t1', rfl, hz', ⟨h0', h1'⟩, rz'⟩ := Sl.at2 (Sl.bel BI.out SG.out) (by rw [← HMG.out]; exact hlk)
              obtain ⟨ps, bd, q0, q1, rfl, hv, st, sb⟩ := Rd.is_f rz rfl
              obtain ⟨ps', bd', q0', q1', rfl, he, st', sb'⟩ := Rd.is_f rz' rfl
              simp only [Array.mk.injEq, List.cons.injEq, and_true] at hv he
              obtain ⟨rfl, rfl⟩ := hv
              obtain ⟨rfl, rfl⟩ := he
              obtain ⟨A7, c7, rfl⟩ := strs_slice st
              obtain ⟨B7, d7, rfl⟩ := strs_slice st'
              obtain ⟨A8, c8, rfl⟩ := sl_slice sb
              obtain ⟨B8, d8, rfl⟩ := sl_slice sb'
              have fps := (fit_elems f (HFE.out _ (List.mem_of_getElem? HA.out)).1.2 _ (List.mem_of_getElem? hz)).1.1
              have TX := Lib.hid (fun W (b : Below wr.heap.size wr W) => rtexts W P Q ps ps' _ _ (Strs.bel b st) (Strs.bel b st') fps)
              have SM := Lib.hid (fun W (b : Below wr.heap.size wr W) => Q2.out _ (List.mem_of_getElem? hz) ps bd rfl bd' W P Q _ _ (FF2.out _ (List.mem_of_getElem? hz')).1.2 (Sl.bel b sb) (Sl.bel b sb'))
              have EE := Lib.hid (show (X.f ps bd).same (X.f ps' bd') = (decide (ps = ps') && bd.same bd') from rfl)
              obtain ⟨r3, hr3⟩ : ∃ r, decide (ps = ps') = r := ⟨_, rfl⟩
              rw [hr3] at TX EE
              obtain ⟨r4, hr4⟩ : ∃ r, bd.same bd' = r := ⟨_, rfl⟩
              rw [hr4] at SM EE
              have NO2 := Lib.hid (fun q => sameL_at f.elems f'.elems k2 _ _ hz hz' q)
              have GO2 := Lib.hid (sameL_take f.elems f'.elems k2 _ _ hz hz')
              generalize (X.f ps bd).same (X.f ps' bd') = S2 at *
              have hl2 : (k2 : Int) < (mf : Int) := by omega
              have HLK := Lib.hid hlk
              have KB : Hid (∀ W, Below wr.heap.size wr W → W.cell? ⟨bx, 6, none⟩ = some (.slice (some g) mf c6) ∧ W.cell? ⟨by_, 6, none⟩ = some (.slice (some g') mf d6) ∧ W.cell? (g.add (k2 * 2)) = some (.slice A7 ps.length c7) ∧ W.cell? ⟨(g.add (k2 * 2)).block, (g.add (k2 * 2)).off + 1, none⟩ = some (.slice A8 bd.len c8) ∧ W.cell? (g'.add (k2 * 2)) = some (.slice B7 ps'.length d7) ∧ W.cell? ⟨(g'.add (k2 * 2)).block, (g'.add (k2 * 2)).off + 1, none⟩ = some (.slice B8 bd'.len d8)) := Lib.hid (fun W b => ⟨cell_in b x6, cell_in b y6, cell_in b h0, cell_in b h1, cell_in b h0', cell_in b h1'⟩)
              clear hlk hk hz hz' rz rz' sb sb' hr4 st st' hr3 fps
              go_wp2_with fail
              clear x0 x1 x2 x3 x4 x5 x6 y0 y1 y2 y3 y4 y5 y6 h0 h0' h1 h1'
              cases r3 with
              | false =>
               refine wp_region_held_drew (S := fun W => Below wr.heap.size wr W) (by kernel_rfl) (Below.refl wr.heap.size wr).drew (fun hH0 => ?_)
               refine tkB 0 hH0 ?_
               refine tkB 1 hH0 ?_
               refine tkB 2 hH0 ?_
               refine tkB 3 hH0 ?_
               refine tkB 4 hH0 ?_
               refine tkB 5 hH0 ?_
               refine tkB 6 hH0 ?_
               refine tkB 7 hH0 ?_
               refine tkB 8 hH0 ?_
               refine tkB 9 hH0 ?_
               refine tkB 10 hH0 ?_
               refine tkB 11 hH0 ?_
               refine wpAnyH_ready (rs := [12]) (by kernel_rfl) (by simp) ?_
               refine rdB (fun K hK => ?_) AllReadyH.nil
               rw [if_pos (by rfl)]
               go_wp2_with (go_at_call 27; refine (TX.out _ hH0).mono ?_; rintro en w7 ⟨rfl, b7⟩; have D1 := Lib.hid (hH0.trans (b7.mono hH0.size)); clear b7)
               refine hK.out _ _ D1.out (fun hH1 => ?_)
               clear hK K
               try simp only [Act.put, List.setIfInBounds_toArray, List.set_cons_zero, List.set_cons_succ]
               refine tkB 13 hH1 ?_
               refine tkB 14 hH1 ?_
               refine tkB 15 hH1 ?_
               refine tkB 16 hH1 ?_
               refine tkB 17 hH1 ?_
               refine tkB 18 hH1 ?_
               refine tkB 19 hH1 ?_
               refine tkB 20 hH1 ?_
               refine tkB 21 hH1 ?_
               refine tkB 22 hH1 ?_
               refine tkB 23 hH1 ?_
               refine tkB 24 hH1 ?_
               refine tkB 25 hH1 ?_
               refine tkB 26 hH1 ?_
               refine tkB 27 hH1 ?_
               refine tkB 28 hH1 ?_
               refine tkB 29 hH1 ?_
               refine wpAnyH_done (by kernel_rfl) ?_ _
               have HR := Lib.hid (show R = false by rw [HE.out]; exact NO.out (by rw [ES.out, SFF.out]; exact NO2.out (by rw [EE.out]; simp)))
               go_wp2_with fail
               go_ret
               exact ⟨by rw [HR.out]; rfl, (BC.out.trans (BI.out.mono BC.out.size)).trans (D1.out.mono (BC.out.trans (BI.out.mono BC.out.size)).size)⟩
              | true =>
               cases r4 with
               | false =>
                refine wp_region_held_drew (S := fun W => Below wr.heap.size wr W) (by kernel_rfl) (Below.refl wr.heap.size wr).drew (fun hH0 => ?_)
                refine tkB 0 hH0 ?_
                refine tkB 1 hH0 ?_
                refine tkB 2 hH0 ?_
                refine tkB 3 hH0 ?_
                refine tkB 4 hH0 ?_
                refine tkB 5 hH0 ?_
                refine tkB 6 hH0 ?_
                refine tkB 7 hH0 ?_
                refine tkB 8 hH0 ?_
                refine tkB 9 hH0 ?_
                refine tkB 10 hH0 ?_
                refine tkB 11 hH0 ?_
                refine wpAnyH_ready (rs := [12]) (by kernel_rfl) (by simp) ?_
                refine rdB (fun K hK => ?_) AllReadyH.nil
                rw [if_pos (by rfl)]
                go_wp2_with (go_at_call 27; refine (TX.out _ hH0).mono ?_; rintro en w7 ⟨rfl, b7⟩; have D1 := Lib.hid (hH0.trans (b7.mono hH0.size)); clear b7)
                refine hK.out _ _ D1.out (fun hH1 => ?_)
                clear hK K
                try simp only [Act.put, List.setIfInBounds_toArray, List.set_cons_zero, List.set_cons_succ]
                refine tkB 13 hH1 ?_
                refine tkB 14 hH1 ?_
                refine tkB 15 hH1 ?_
                refine tkB 16 hH1 ?_
                refine tkB 17 hH1 ?_
                refine tkB 18 hH1 ?_
                refine tkB 19 hH1 ?_
                refine tkB 20 hH1 ?_
                refine tkB 21 hH1 ?_
                refine tkB 22 hH1 ?_
                refine tkB 23 hH1 ?_
                refine tkB 24 hH1 ?_
                refine tkB 25 hH1 ?_
                refine tkB 26 hH1 ?_
                refine wpAnyH_ready (rs := [27]) (by kernel_rfl) (by simp) ?_
                refine rdB (fun K hK => ?_) AllReadyH.nil
                rw [if_pos (by rfl)]
                go_wp2_with (go_at_call 12; refine (SM.out _ hH1).mono ?_; rintro en w8 ⟨rfl, b8⟩; have D2 := Lib.hid (hH1.trans (b8.mono hH1.size)); clear b8)
                refine hK.out _ _ D2.out (fun hH2 => ?_)
                clear hK K
                try simp only [Act.put, List.setIfInBounds_toArray, List.set_cons_zero, List.set_cons_succ]
                refine tkB 28 hH2 ?_
                refine tkB 29 hH2 ?_
                refine wpAnyH_done (by kernel_rfl) ?_ _
                have HR := Lib.hid (show R = false by rw [HE.out]; exact NO.out (by rw [ES.out, SFF.out]; exact NO2.out (by rw [EE.out]; simp)))
                go_wp2_with fail
                go_ret
                exact ⟨by rw [HR.out]; rfl, (BC.out.trans (BI.out.mono BC.out.size)).trans (D2.out.mono (BC.out.trans (BI.out.mono BC.out.size)).size)⟩
               | true =>
                refine wp_region_held_drew (S := fun W => Below wr.heap.size wr W) (by kernel_rfl) (Below.refl wr.heap.size wr).drew (fun hH0 => ?_)
                refine tkB 0 hH0 ?_
                refine tkB 1 hH0 ?_
                refine tkB 2 hH0 ?_
                refine tkB 3 hH0 ?_
                refine tkB 4 hH0 ?_
                refine tkB 5 hH0 ?_
                refine tkB 6 hH0 ?_
                refine tkB 7 hH0 ?_
                refine tkB 8 hH0 ?_
                refine tkB 9 hH0 ?_
                refine tkB 10 hH0 ?_
                refine tkB 11 hH0 ?_
                refine wpAnyH_ready (rs := [12]) (by kernel_rfl) (by simp) ?_
                refine rdB (fun K hK => ?_) AllReadyH.nil
                rw [if_pos (by rfl)]
                go_wp2_with (go_at_call 27; refine (TX.out _ hH0).mono ?_; rintro en w7 ⟨rfl, b7⟩; have D1 := Lib.hid (hH0.trans (b7.mono hH0.size)); clear b7)
                refine hK.out _ _ D1.out (fun hH1 => ?_)
                clear hK K
                try simp only [Act.put, List.setIfInBounds_toArray, List.set_cons_zero, List.set_cons_succ]
                refine tkB 13 hH1 ?_
                refine tkB 14 hH1 ?_
                refine tkB 15 hH1 ?_
                refine tkB 16 hH1 ?_
                refine tkB 17 hH1 ?_
                refine tkB 18 hH1 ?_
                refine tkB 19 hH1 ?_
                refine tkB 20 hH1 ?_
                refine tkB 21 hH1 ?_
                refine tkB 22 hH1 ?_
                refine tkB 23 hH1 ?_
                refine tkB 24 hH1 ?_
                refine tkB 25 hH1 ?_
                refine tkB 26 hH1 ?_
                refine wpAnyH_ready (rs := [27]) (by kernel_rfl) (by simp) ?_
                refine rdB (fun K hK => ?_) AllReadyH.nil
                rw [if_pos (by rfl)]
                go_wp2_with (go_at_call 12; refine (SM.out _ hH1).mono ?_; rintro en w8 ⟨rfl, b8⟩; have D2 := Lib.hid (hH1.trans (b8.mono hH1.size)); clear b8)
                refine hK.out _ _ D2.out (fun hH2 => ?_)
                clear hK K
                try simp only [Act.put, List.setIfInBounds_toArray, List.set_cons_zero, List.set_cons_succ]
                refine tkB 28 hH2 ?_
                refine tkB 29 hH2 ?_
                refine wpAnyH_done (by kernel_rfl) ?_ _
                go_wp2_with fail
                refine ⟨⟨k2 + 1, ?_, HLK.out, ?_, BI.out.trans (D2.out.mono BI.out.size)⟩, ?_⟩
                ·first | rfl | exact congrArg (Value.int .i64) (wk.trans (by omega))
                ·rw [GO2.out, HSK.out, EE.out]; rfl
                ·have := HLK.out; simp only [intOf]; omega
             ·have hl2 : ¬ (k2 : Int) < (mf : Int) := by omega
              have hk3 : k2 = mf := by omega
              have HTT := Lib.hid (show r2 = true by rw [SFF.out]; have h := HSK.out; rwa [List.take_of_length_le (by rw [elems_len, ← HMF.out]; omega), List.take_of_length_le (by rw [elems_len, ← HMG.out]; omega)] at h)
              clear hlk hk hk3
              go_wp2_with fail
              refine ⟨⟨i + 1, _, _, _, ?_, rfl, rfl, rfl, HLT.out, ?_, BC.out.trans (BI.out.mono BC.out.size)⟩, ?_⟩
              ·first | rfl | exact congrArg (Value.int .i64) (wri.trans (by omega))
              ·rw [GO.out, HS.out, ES.out, HTT.out]; rfl
              ·have := HLT.out; simp only [intOf]; omega
           ·have b1 : ((mf : Int) != (mg : Int)) = true := by rw [bne_iff_ne]; omega
            have HR := Lib.hid (show R = false by rw [HE.out]; exact NO.out (by rw [EQ.out, SFF.out, sameL_len f.elems f'.elems (by rw [elems_len, elems_len, ← HMF.out, ← HMG.out]; exact hmm)]; simp))
            go_wp2_with (first | (go_at_call 28; refine (HL.out _ BX.out).mono ?_; rintro en w5 ⟨rfl, b5⟩; have BX5 := Lib.hid b5; have KX5 := Lib.hid (KX.out.below b5 KX.out.lt); have KY5 := Lib.hid (KY.out.below b5 KY.out.lt); clear b5; obtain ⟨⟨x0, x1, x2, x3, x4, x5, x6⟩, -⟩ := KX5.out.seven; obtain ⟨⟨y0, y1, y2, y3, y4, y5, y6⟩, -⟩ := KY5.out.seven))
            go_ret
            exact ⟨by rw [HR.out]; rfl, BC.out.trans (BX5.out.mono BC.out.size)⟩
         ·have b1 : (op != op') = true := by rw [bne_iff_ne]; exact qop
          have HR := Lib.hid (show R = false by rw [HE.out]; exact NO.out (by rw [EQ.out]; simp [qop]))
          subst qk qac qnn qsv
          go_wp2_with fail
          go_ret
          exact ⟨by rw [HR.out]; rfl, BC.out⟩
        ·have b1 : (sv.toList == sv'.toList) = false := by rw [beq_eq_false_iff_ne]; exact fun z => qsv ((tl_eq sv sv').1 z)
         have HR := Lib.hid (show R = false by rw [HE.out]; exact NO.out (by rw [EQ.out]; simp [qsv]))
         subst qk qac qnn
         go_wp2_with fail
         go_ret
         exact ⟨by rw [HR.out]; rfl, BC.out⟩
       ·have b1 : (nn != nn') = true := by rw [bne_iff_ne]; exact qnn
        have HR := Lib.hid (show R = false by rw [HE.out]; exact NO.out (by rw [EQ.out]; simp [qnn]))
        subst qk qac
        go_wp2_with fail
        go_ret
        exact ⟨by rw [HR.out]; rfl, BC.out⟩
      ·have b1 : (ac != ac') = true := by rw [bne_iff_ne]; exact qac
       have HR := Lib.hid (show R = false by rw [HE.out]; exact NO.out (by rw [EQ.out]; simp [qac]))
       subst qk
       go_wp2_with fail
       go_ret
       exact ⟨by rw [HR.out]; rfl, BC.out⟩
     ·have b1 : (k != k') = true := by rw [bne_iff_ne]; exact qk
      have HR := Lib.hid (show R = false by rw [HE.out]; exact NO.out (by rw [EQ.out]; simp [qk]))
      go_wp2_with fail
      go_ret
      exact ⟨by rw [HR.out]; rfl, BC.out⟩
   ·have hl1 : ¬ (i : Int) < (n : Int) := by omega
    have HT := Lib.hid (show R = true by
     have h := HS.out
     rw [HE.out]
     rwa [List.take_of_length_le (by rw [elems_len, ← HN.out]; omega), List.take_of_length_le (by rw [elems_len, ← HM.out]; omega)] at h)
    clear hlt hi
    go_wp2_with fail
    go_ret
    exact ⟨by rw [HT.out]; rfl, HB.out⟩
 ·have b1 : ((n : Int) != (m : Int)) = true := by rw [bne_iff_ne]; omega
  have HR := Lib.hid (show R = false by rw [HE.out]; exact sameL_len _ _ (by rw [elems_len, elems_len, ← HN.out, ← HM.out]; exact hnm))
  go_enter Tryz.func28, Tryz.ntmps28
  go_wp2_with fail
  go_ret
  exact ⟨by rw [HR.out]; rfl, Below.refl _ _⟩
set_option maxRecDepth 20000 in
set_option maxHeartbeats 8000000 in
theorem rsam_s (w : World) (P Q : Nat → Prop) (x y : X) (A B : Option Addr) (n m c d : Nat) (h : Sl x.len (Rd w P x).row 5 (.slice A n c)) (h2 : Sl y.len (Rd w Q y).row 5 (.slice B m d)) (hb : x.fit 100000) (hb2 : y.fit 100000) (H : ∀ y ∈ x.elems, SamQ y) : Calls Tryz.prog 12 #[.slice A n c, .slice B m d] w (SR (x.same y) w) := by
 have HX := Lib.hid h
 have HY := Lib.hid h2
 have HQ := Lib.hid (fun y hy => H y hy (fit_elems x hb y hy))
 have HFE := Lib.hid (fit_elems x hb)
 have HFY := Lib.hid (fit_elems y hb2)
 have HN := Lib.hid (Sl.len h).1
 have HM := Lib.hid (Sl.len h2).1
 obtain ⟨R, hR⟩ : ∃ R, x.same y = R := ⟨_, rfl⟩
 have HE := Lib.hid (show R = sameL x.elems y.elems by rw [← hR]; exact sl_same h h2)
 rw [hR]
 have hn := X.fit_len x hb
 rw [← HN.out] at hn
 have n0 : (0 : Int) ≤ (n : Int) := by omega
 have n1 : (n : Int) ≤ 100000 := by omega
 clear h h2 H hb hb2 hR
 by_cases hnm : n = m
 ·subst hnm
  go_enter Tryz.func12, Tryz.ntmps12
  go_wp2_with fail
  go_loopw [5, 6, 7, 8] (fun u5 u6 u7 u8 wr => ∃ (i : Nat) (p6 p7 p8 : Value), u5 = .int .i64 (i : Int) ∧ u6 = p6 ∧ u7 = p7 ∧ u8 = p8 ∧ i ≤ n ∧ sameL (x.elems.take i) (y.elems.take i) = true ∧ Below w.heap.size w wr) (fun u5 _ _ _ _ => (n : Int).toNat - (intOf u5).toNat)
  case atStart => exact ⟨0, undef, undef, undef, rfl, rfl, rfl, rfl, Nat.zero_le _, rfl, Below.refl _ _⟩
  case round =>
   obtain ⟨i, p6, p7, p8, rfl, rfl, rfl, rfl, hi, hs, hbl⟩ := hrel
   have HB := Lib.hid hbl
   have HS := Lib.hid hs
   have i0 : (0 : Int) ≤ (i : Int) := by omega
   have wri : wrap64 ((i : Int) + 1) = (i : Int) + 1 := by unfold wrap64; omega
   clear hbl hs
   by_cases hlt : i < n
   ·obtain ⟨p, a, v0, v1, v2, v3, v4, rfl, ha, ⟨c0, c1, c2, c3, c4⟩, rda⟩ := Sl.at5 (Sl.bel HB.out HX.out) (by rw [← HN.out]; exact hlt)
    obtain ⟨q, b, e0, e1, e2, e3, e4, rfl, hb, ⟨d0, d1, d2, d3, d4⟩, rdb⟩ := Sl.at5 (Sl.bel HB.out HY.out) (by rw [← HM.out]; exact hlt)
    have hl1 : (i : Int) < (n : Int) := by omega
    have HLT := Lib.hid hlt
    have HA := Lib.hid ha
    have HBB := Lib.hid hb
    have RA := Lib.hid rda
    have RB := Lib.hid rdb
    have KB : Hid (∀ W, Below wr.heap.size wr W → (W.cell? (p.add (i * 5)) = some v0 ∧ W.cell? ⟨(p.add (i * 5)).block, (p.add (i * 5)).off + 1, none⟩ = some v1 ∧ W.cell? ⟨(p.add (i * 5)).block, (p.add (i * 5)).off + 2, none⟩ = some v2 ∧ W.cell? ⟨(p.add (i * 5)).block, (p.add (i * 5)).off + 3, none⟩ = some v3 ∧ W.cell? ⟨(p.add (i * 5)).block, (p.add (i * 5)).off + 4, none⟩ = some v4) ∧ W.cell? (q.add (i * 5)) = some e0 ∧ W.cell? ⟨(q.add (i * 5)).block, (q.add (i * 5)).off + 1, none⟩ = some e1 ∧ W.cell? ⟨(q.add (i * 5)).block, (q.add (i * 5)).off + 2, none⟩ = some e2 ∧ W.cell? ⟨(q.add (i * 5)).block, (q.add (i * 5)).off + 3, none⟩ = some e3 ∧ W.cell? ⟨(q.add (i * 5)).block, (q.add (i * 5)).off + 4, none⟩ = some e4) := Lib.hid (fun W b => ⟨⟨cell_in b c0, cell_in b c1, cell_in b c2, cell_in b c3, cell_in b c4⟩, cell_in b d0, cell_in b d1, cell_in b d2, cell_in b d3, cell_in b d4⟩)
    clear c0 c1 c2 c3 c4 d0 d1 d2 d3 d4 hi hlt ha hb rda rdb
    go_wp2_with fail
    go_cut [6, 7] from 20 to 27 (fun s6 s7 wx => ∃ bx by_ : Nat, s6 = .pointer (some ⟨bx, 0, none⟩) ∧ s7 = .pointer (some ⟨by_, 0, none⟩) ∧ Blk wx bx #[v0, v1, v2, v3, v4] 34 ∧ Blk wx by_ #[e0, e1, e2, e3, e4] 34 ∧ Below wr.heap.size wr wx)
    case first =>
     refine wp_region_held_drew (S := fun W => Below wr.heap.size wr W) (by kernel_rfl) (Below.refl wr.heap.size wr).drew (fun hH0 => ?_)
     refine tkB 0 hH0 ?_
     refine tkB 1 hH0 ?_
     refine tkB 2 hH0 ?_
     refine tkB 3 hH0 ?_
     refine tkB 4 hH0 ?_
     refine tkB 5 hH0 ?_
     refine tkB 6 hH0 ?_
     refine tkB 7 hH0 ?_
     refine wpAnyH_ready (rs := [8, 9]) (by kernel_rfl) (by simp) ?_
     obtain ⟨w2, hw2, k1, k2, B2⟩ := two_new wr Z5 34
     have K1 := Lib.hid k1
     have K2 := Lib.hid k2
     have BB2 := Lib.hid B2
     clear k1 k2 B2
     have OV := Lib.hid (onesN (Rd.one_cells _ _ RA.out))
     have OE := Lib.hid (onesN (Rd.one_cells _ _ RB.out))
     refine rdB (fun K hK => ?_) (rdB (fun K hK => ?_) AllReadyH.nil)
     ·rw [if_pos (by rfl)]
      go_wp2_with fail
      refine hK.out _ _ (al_below wr _).drew (fun hH1 => ?_)
      clear hK K
      try simp only [Act.put, List.setIfInBounds_toArray, List.set_cons_zero, List.set_cons_succ]
      refine wpAnyH_ready (rs := [9]) (by kernel_rfl) (by simp) ?_
      refine rdB (fun K hK => ?_) AllReadyH.nil
      rw [if_pos (by rfl)]
      go_wp2_with fail
      rw [← hw2]
      refine hK.out _ _ BB2.out (fun hH2 => ?_)
      clear hK K hw2
      try simp only [Act.put, List.setIfInBounds_toArray, List.set_cons_zero, List.set_cons_succ]
      refine wpAnyH_ready (rs := [10]) (by kernel_rfl) (by simp) ?_
      refine rdB (fun K hK => ?_) AllReadyH.nil
      rw [if_pos (by rfl)]
      refine wp_store_row 34 (.tmp 6) (.tmp 23) rfl wr.heap.size #[v0, v1, v2, v3, v4] rfl rfl 34 _ K1.out sizeSt rfl OV.out ?_
      obtain ⟨w3, hw3, K3, o3⟩ := row7 (cs := #[v0, v1, v2, v3, v4]) K1.out
      rw [← hw3]
      have B3 := Lib.hid (BB2.out.trans (o3.out.below (B := wr.heap.size) (fun n e => by subst e; omega) BB2.out.size))
      have K4 := Lib.hid (K2.out.only o3.out (by omega))
      refine hK.out _ _ B3.out (fun hH3 => ?_)
      clear hK K hw3
      try simp only [Act.put, List.setIfInBounds_toArray, List.set_cons_zero, List.set_cons_succ]
      refine wpAnyH_ready (rs := [11]) (by kernel_rfl) (by simp) ?_
      refine rdB (fun K hK => ?_) AllReadyH.nil
      rw [if_pos (by rfl)]
      refine wp_store_row 34 (.tmp 7) (.tmp 27) rfl (wr.heap.size + 1) #[e0, e1, e2, e3, e4] rfl rfl 34 _ K4.out sizeSt rfl OE.out ?_
      obtain ⟨w4, hw4, K5, o4⟩ := row7 (cs := #[e0, e1, e2, e3, e4]) K4.out
      rw [← hw4]
      have B4 := Lib.hid (B3.out.trans (o4.out.below (B := wr.heap.size) (fun n e => by subst e; omega) B3.out.size))
      have K6 := Lib.hid (K3.out.only o4.out (by omega))
      refine hK.out _ _ B4.out (fun hH4 => ?_)
      clear hK K hw4
      try simp only [Act.put, List.setIfInBounds_toArray, List.set_cons_zero, List.set_cons_succ]
      refine wpAnyH_done (by kernel_rfl) ?_ _
      go_wp2_with fail
      go_meet
      case rel => exact ⟨_, _, rfl, rfl, K6.out, K5.out, B4.out⟩
     ·rw [if_pos (by rfl)]
      go_wp2_with fail
      refine hK.out _ _ (al_below wr _).drew (fun hH1 => ?_)
      clear hK K
      try simp only [Act.put, List.setIfInBounds_toArray, List.set_cons_zero, List.set_cons_succ]
      refine wpAnyH_ready (rs := [8]) (by kernel_rfl) (by simp) ?_
      refine rdB (fun K hK => ?_) AllReadyH.nil
      rw [if_pos (by rfl)]
      go_wp2_with fail
      rw [← hw2]
      refine hK.out _ _ BB2.out (fun hH2 => ?_)
      clear hK K hw2
      try simp only [Act.put, List.setIfInBounds_toArray, List.set_cons_zero, List.set_cons_succ]
      refine wpAnyH_ready (rs := [10]) (by kernel_rfl) (by simp) ?_
      refine rdB (fun K hK => ?_) AllReadyH.nil
      rw [if_pos (by rfl)]
      refine wp_store_row 34 (.tmp 6) (.tmp 23) rfl (wr.heap.size + 1) #[v0, v1, v2, v3, v4] rfl rfl 34 _ K2.out sizeSt rfl OV.out ?_
      obtain ⟨w3, hw3, K3, o3⟩ := row7 (cs := #[v0, v1, v2, v3, v4]) K2.out
      rw [← hw3]
      have B3 := Lib.hid (BB2.out.trans (o3.out.below (B := wr.heap.size) (fun n e => by subst e; omega) BB2.out.size))
      have K4 := Lib.hid (K1.out.only o3.out (by omega))
      refine hK.out _ _ B3.out (fun hH3 => ?_)
      clear hK K hw3
      try simp only [Act.put, List.setIfInBounds_toArray, List.set_cons_zero, List.set_cons_succ]
      refine wpAnyH_ready (rs := [11]) (by kernel_rfl) (by simp) ?_
      refine rdB (fun K hK => ?_) AllReadyH.nil
      rw [if_pos (by rfl)]
      refine wp_store_row 34 (.tmp 7) (.tmp 27) rfl wr.heap.size #[e0, e1, e2, e3, e4] rfl rfl 34 _ K4.out sizeSt rfl OE.out ?_
      obtain ⟨w4, hw4, K5, o4⟩ := row7 (cs := #[e0, e1, e2, e3, e4]) K4.out
      rw [← hw4]
      have B4 := Lib.hid (B3.out.trans (o4.out.below (B := wr.heap.size) (fun n e => by subst e; omega) B3.out.size))
      have K6 := Lib.hid (K3.out.only o4.out (by omega))
      refine hK.out _ _ B4.out (fun hH4 => ?_)
      clear hK K hw4
      try simp only [Act.put, List.setIfInBounds_toArray, List.set_cons_zero, List.set_cons_succ]
      refine wpAnyH_done (by kernel_rfl) ?_ _
      go_wp2_with fail
      go_meet
      case rel => exact ⟨_, _, rfl, rfl, K6.out, K5.out, B4.out⟩
    case rest =>
     obtain ⟨bx, by_, rfl, rfl, kx, ky, bb⟩ := hcut
     have KX := Lib.hid kx
     have KY := Lib.hid ky
     have BC := Lib.hid (HB.out.trans (bb.mono HB.out.size))
     have RA2 := Lib.hid (Rd.bel bb RA.out)
     have RB2 := Lib.hid (Rd.bel bb RB.out)
     clear KB bb kx ky RA RB
     obtain ⟨k, ac, ns, l, f, v2', v3', v4', rfl, hv, st, sl, sf⟩ := Rd.is_s RA2.out rfl
     obtain ⟨k', ac', ns', l', f', e2', e3', e4', rfl, he, st2, sl2, sf2⟩ := Rd.is_s RB2.out rfl
     simp only [Array.mk.injEq, List.cons.injEq, and_true] at hv he
     obtain ⟨rfl, rfl, rfl, rfl, rfl⟩ := hv
     obtain ⟨rfl, rfl, rfl, rfl, rfl⟩ := he
     obtain ⟨A4, c4, rfl⟩ := strs_slice st
     obtain ⟨B4, d4, rfl⟩ := strs_slice st2
     obtain ⟨A5, c5, rfl⟩ := sl_slice sl
     obtain ⟨A6, mf, c6, rfl, hmf⟩ := sl_slice2 sf
     obtain ⟨B5, d5, rfl⟩ := sl_slice sl2
     obtain ⟨B6, mg, d6, rfl, hmg⟩ := sl_slice2 sf2
     have QY := HQ.out _ (List.mem_of_getElem? HA.out)
     have FA := HFE.out _ (List.mem_of_getElem? HA.out)
     have FB := HFY.out _ (List.mem_of_getElem? HBB.out)
     have HL := Lib.hid (fun W (b : Below wc.heap.size wc W) => QY.1 l' W P Q _ _ FB.1.2.1 (Sl.bel b sl) (Sl.bel b sl2))
     have Q2 := Lib.hid QY.2
     have HTX := Lib.hid (fun W (b : Below wc.heap.size wc W) => rtexts W P Q ns ns' _ _ (Strs.bel b st) (Strs.bel b st2) FA.1.1)
     have SF := Lib.hid sf
     have SG := Lib.hid sf2
     have HMF := Lib.hid hmf
     have HMG := Lib.hid hmg
     have FF2 := Lib.hid (fit_elems f' FB.1.2.2)
     have FM := Lib.hid (show mf ≤ 100000 by rw [hmf]; exact X.fit_len f FA.1.2.2)
     have EQ := Lib.hid (show (X.s k ac ns l f).same (X.s k' ac' ns' l' f') = (decide (k = k') && (decide (ac = ac') && (decide (ns = ns') && (l.same l' && f.same f')))) from rfl)
     have NO := Lib.hid (fun q => sameL_at x.elems y.elems i _ _ HA.out HBB.out q)
     have GO := Lib.hid (sameL_take x.elems y.elems i _ _ HA.out HBB.out)
     generalize (X.s k ac ns l f).same (X.s k' ac' ns' l' f') = S at *
     have SFF := Lib.hid (show f.same f' = sameL f.elems f'.elems from sl_same sf sf2)
     obtain ⟨r1, hr1⟩ : ∃ r, l.same l' = r := ⟨_, rfl⟩
     rw [hr1] at HL EQ
     obtain ⟨r2, hr2⟩ : ∃ r, f.same f' = r := ⟨_, rfl⟩
     rw [hr2] at EQ SFF
     obtain ⟨r0, hr0⟩ : ∃ r, decide (ns = ns') = r := ⟨_, rfl⟩
     rw [hr0] at HTX EQ
     obtain ⟨⟨x0, x1, x2, x3, x4⟩, -⟩ := KX.out.five
     obtain ⟨⟨y0, y1, y2, y3, y4⟩, -⟩ := KY.out.five
     have BX := Lib.hid (Below.refl wc.heap.size wc)
     clear QY FA FB sl sl2 sf sf2 hmf hmg RA2 RB2 hr1 hr2 hr0 st st2
     by_cases qk : k = k'
     ·skip
      by_cases qac : ac = ac'
      ·skip
       subst qk qac
       cases r0 with
       | false =>
        have HR := Lib.hid (show R = false by rw [HE.out]; exact NO.out (by rw [EQ.out]; simp))
        go_wp2_with (first | (go_at_call 27; refine (HTX.out _ BX.out).mono ?_; rintro en w7 ⟨rfl, b7⟩; have BX7 := Lib.hid b7; have KX7 := Lib.hid (KX.out.below b7 KX.out.lt); have KY7 := Lib.hid (KY.out.below b7 KY.out.lt); clear b7; obtain ⟨⟨x0, x1, x2, x3, x4⟩, -⟩ := KX7.out.five; obtain ⟨⟨y0, y1, y2, y3, y4⟩, -⟩ := KY7.out.five))
        go_ret
        exact ⟨by rw [HR.out]; rfl, BC.out.trans (BX7.out.mono BC.out.size)⟩
       | true =>
        cases r1 with
        | false =>
         have HR := Lib.hid (show R = false by rw [HE.out]; exact NO.out (by rw [EQ.out]; simp))
         go_wp2_with (first | (go_at_call 27; refine (HTX.out _ BX.out).mono ?_; rintro en w7 ⟨rfl, b7⟩; have BX7 := Lib.hid b7; have KX7 := Lib.hid (KX.out.below b7 KX.out.lt); have KY7 := Lib.hid (KY.out.below b7 KY.out.lt); clear b7; obtain ⟨⟨x0, x1, x2, x3, x4⟩, -⟩ := KX7.out.five; obtain ⟨⟨y0, y1, y2, y3, y4⟩, -⟩ := KY7.out.five) | (go_at_call 28; refine (HL.out _ BX7.out).mono ?_; rintro en w5 ⟨rfl, b5⟩; have BX5 := Lib.hid (BX7.out.trans (b5.mono BX7.out.size)); have KX5 := Lib.hid (KX7.out.below b5 KX7.out.lt); have KY5 := Lib.hid (KY7.out.below b5 KY7.out.lt); clear b5; obtain ⟨⟨x0, x1, x2, x3, x4⟩, -⟩ := KX5.out.five; obtain ⟨⟨y0, y1, y2, y3, y4⟩, -⟩ := KY5.out.five))
         go_ret
         exact ⟨by rw [HR.out]; rfl, BC.out.trans (BX5.out.mono BC.out.size)⟩
        | true =>
         by_cases hmm : mf = mg
         ·subst hmm
          have ES := Lib.hid (show S = r2 by rw [EQ.out]; simp)
          clear EQ
          go_wp2_with (first | (go_at_call 27; refine (HTX.out _ BX.out).mono ?_; rintro en w7 ⟨rfl, b7⟩; have BX7 := Lib.hid b7; have KX7 := Lib.hid (KX.out.below b7 KX.out.lt); have KY7 := Lib.hid (KY.out.below b7 KY.out.lt); clear b7; obtain ⟨⟨x0, x1, x2, x3, x4⟩, -⟩ := KX7.out.five; obtain ⟨⟨y0, y1, y2, y3, y4⟩, -⟩ := KY7.out.five) | (go_at_call 28; refine (HL.out _ BX7.out).mono ?_; rintro en w5 ⟨rfl, b5⟩; have BX5 := Lib.hid (BX7.out.trans (b5.mono BX7.out.size)); have KX5 := Lib.hid (KX7.out.below b5 KX7.out.lt); have KY5 := Lib.hid (KY7.out.below b5 KY7.out.lt); clear b5; obtain ⟨⟨x0, x1, x2, x3, x4⟩, -⟩ := KX5.out.five; obtain ⟨⟨y0, y1, y2, y3, y4⟩, -⟩ := KY5.out.five))
          go_loopw [8] (fun ub wi => ∃ k : Nat, ub = .int .i64 (k : Int) ∧ k ≤ mf ∧ sameL (f.elems.take k) (f'.elems.take k) = true ∧ Below wc.heap.size wc wi) (fun ub _ => mf - (intOf ub).toNat)
          case atStart => exact ⟨0, rfl, Nat.zero_le _, rfl, BX5.out⟩
          case round =>
           obtain ⟨k2, rfl, hk, hsk, hbl⟩ := hrel
           have BI := Lib.hid hbl
           have HSK := Lib.hid hsk
           clear hbl hsk
           obtain ⟨⟨x0, x1, x2, x3, x4⟩, -⟩ := (KX.out.below BI.out KX.out.lt).five
           obtain ⟨⟨y0, y1, y2, y3, y4⟩, -⟩ := (KY.out.below BI.out KY.out.lt).five
           have k0 : (0 : Int) ≤ (k2 : Int) := by omega
           have fl := FM.out
           have m1 : (mf : Int) ≤ 100000 := by omega
           have wk : wrap64 ((k2 : Int) + 1) = (k2 : Int) + 1 := by unfold wrap64; omega
           clear fl
           by_cases hlk : k2 < mf
           ·obtain ⟨g, z, t1, rfl, hz, h1, rz⟩ := Sl.at1 (Sl.bel BI.out SF.out) (by rw [← HMF.out]; exact hlk)
            obtain ⟨g', z', t1', rfl, hz', h1', rz'⟩ := Sl.at1 (Sl.bel BI.out SG.out) (by rw [← HMG.out]; exact hlk)
            rw [Nat.mul_one] at h1 h1'
            obtain ⟨bd, q1, rfl, hv, sb⟩ := Rd.is_b rz rfl
            obtain ⟨bd', q1', rfl, he, sb'⟩ := Rd.is_b rz' rfl
            simp only [Array.mk.injEq, List.cons.injEq, and_true] at hv he
            subst hv he
            obtain ⟨A8, c8, rfl⟩ := sl_slice sb
            obtain ⟨B8, d8, rfl⟩ := sl_slice sb'
            have SM := Lib.hid (fun W (b : Below wr.heap.size wr W) => Q2.out _ (List.mem_of_getElem? hz) bd rfl bd' W P Q _ _ (show (X.blk bd').fit 100000 from FF2.out _ (List.mem_of_getElem? hz')) (Sl.bel b sb) (Sl.bel b sb'))
            have EE := Lib.hid (show (X.blk bd).same (X.blk bd') = bd.same bd' from rfl)
            obtain ⟨r4, hr4⟩ : ∃ r, bd.same bd' = r := ⟨_, rfl⟩
            rw [hr4] at SM EE
            have NO2 := Lib.hid (fun q => sameL_at f.elems f'.elems k2 _ _ hz hz' q)
            have GO2 := Lib.hid (sameL_take f.elems f'.elems k2 _ _ hz hz')
            generalize (X.blk bd).same (X.blk bd') = S2 at *
            have hl2 : (k2 : Int) < (mf : Int) := by omega
            have HLK := Lib.hid hlk
            have KB : Hid (∀ W, Below wr.heap.size wr W → W.cell? ⟨bx, 4, none⟩ = some (.slice (some g) mf c6) ∧ W.cell? ⟨by_, 4, none⟩ = some (.slice (some g') mf d6) ∧ W.cell? (g.add k2) = some (.slice A8 bd.len c8) ∧ W.cell? (g'.add k2) = some (.slice B8 bd'.len d8)) := Lib.hid (fun W b => ⟨cell_in b x4, cell_in b y4, cell_in b h1, cell_in b h1'⟩)
            clear hlk hk hz hz' rz rz' sb sb' hr4
            go_wp2_with fail
            clear x0 x1 x2 x3 x4 y0 y1 y2 y3 y4 h1 h1'
            cases r4 with
            | false =>
             refine wp_region_held_drew (S := fun W => Below wr.heap.size wr W) (by kernel_rfl) (Below.refl wr.heap.size wr).drew (fun hH0 => ?_)
             refine tkB 0 hH0 ?_
             refine tkB 1 hH0 ?_
             refine tkB 2 hH0 ?_
             refine tkB 3 hH0 ?_
             refine tkB 4 hH0 ?_
             refine tkB 5 hH0 ?_
             refine tkB 6 hH0 ?_
             refine tkB 7 hH0 ?_
             refine tkB 8 hH0 ?_
             refine tkB 9 hH0 ?_
             refine wpAnyH_ready (rs := [10]) (by kernel_rfl) (by simp) ?_
             refine rdB (fun K hK => ?_) AllReadyH.nil
             rw [if_pos (by rfl)]
             go_wp2_with (go_at_call 12; refine (SM.out _ hH0).mono ?_; rintro en w8 ⟨rfl, b8⟩; have D1 := Lib.hid (hH0.trans (b8.mono hH0.size)); clear b8)
             refine hK.out _ _ D1.out (fun hH1 => ?_)
             clear hK K
             try simp only [Act.put, List.setIfInBounds_toArray, List.set_cons_zero, List.set_cons_succ]
             refine tkB 11 hH1 ?_
             refine wpAnyH_done (by kernel_rfl) ?_ _
             have HR := Lib.hid (show R = false by rw [HE.out]; exact NO.out (by rw [ES.out, SFF.out]; exact NO2.out (by rw [EE.out])))
             go_wp2_with fail
             go_ret
             exact ⟨by rw [HR.out]; rfl, (BC.out.trans (BI.out.mono BC.out.size)).trans (D1.out.mono (BC.out.trans (BI.out.mono BC.out.size)).size)⟩
            | true =>
             refine wp_region_held_drew (S := fun W => Below wr.heap.size wr W) (by kernel_rfl) (Below.refl wr.heap.size wr).drew (fun hH0 => ?_)
             refine tkB 0 hH0 ?_
             refine tkB 1 hH0 ?_
             refine tkB 2 hH0 ?_
             refine tkB 3 hH0 ?_
             refine tkB 4 hH0 ?_
             refine tkB 5 hH0 ?_
             refine tkB 6 hH0 ?_
             refine tkB 7 hH0 ?_
             refine tkB 8 hH0 ?_
             refine tkB 9 hH0 ?_
             refine wpAnyH_ready (rs := [10]) (by kernel_rfl) (by simp) ?_
             refine rdB (fun K hK => ?_) AllReadyH.nil
             rw [if_pos (by rfl)]
             go_wp2_with (go_at_call 12; refine (SM.out _ hH0).mono ?_; rintro en w8 ⟨rfl, b8⟩; have D1 := Lib.hid (hH0.trans (b8.mono hH0.size)); clear b8)
             refine hK.out _ _ D1.out (fun hH1 => ?_)
             clear hK K
             try simp only [Act.put, List.setIfInBounds_toArray, List.set_cons_zero, List.set_cons_succ]
             refine tkB 11 hH1 ?_
             refine wpAnyH_done (by kernel_rfl) ?_ _
             go_wp2_with fail
             refine ⟨⟨k2 + 1, ?_, HLK.out, ?_, BI.out.trans (D1.out.mono BI.out.size)⟩, ?_⟩
             ·first | rfl | exact congrArg (Value.int .i64) (wk.trans (by omega))
             ·rw [GO2.out, HSK.out, EE.out]; rfl
             ·have := HLK.out; simp only [intOf]; omega
           ·have hl2 : ¬ (k2 : Int) < (mf : Int) := by omega
            have hk3 : k2 = mf := by omega
            have HTT := Lib.hid (show r2 = true by rw [SFF.out]; have h := HSK.out; rwa [List.take_of_length_le (by rw [elems_len, ← HMF.out]; omega), List.take_of_length_le (by rw [elems_len, ← HMG.out]; omega)] at h)
            clear hlk hk hk3
            go_wp2_with fail
            refine ⟨⟨i + 1, _, _, _, ?_, rfl, rfl, rfl, HLT.out, ?_, BC.out.trans (BI.out.mono BC.out.size)⟩, ?_⟩
            ·first | rfl | exact congrArg (Value.int .i64) (wri.trans (by omega))
            ·rw [GO.out, HS.out, ES.out, HTT.out]; rfl
            ·have := HLT.out; simp only [intOf]; omega
         ·have b1 : ((mf : Int) != (mg : Int)) = true := by rw [bne_iff_ne]; omega
          have HR := Lib.hid (show R = false by rw [HE.out]; exact NO.out (by rw [EQ.out, SFF.out, sameL_len f.elems f'.elems (by rw [elems_len, elems_len, ← HMF.out, ← HMG.out]; exact hmm)]; simp))
          go_wp2_with (first | (go_at_call 27; refine (HTX.out _ BX.out).mono ?_; rintro en w7 ⟨rfl, b7⟩; have BX7 := Lib.hid b7; have KX7 := Lib.hid (KX.out.below b7 KX.out.lt); have KY7 := Lib.hid (KY.out.below b7 KY.out.lt); clear b7; obtain ⟨⟨x0, x1, x2, x3, x4⟩, -⟩ := KX7.out.five; obtain ⟨⟨y0, y1, y2, y3, y4⟩, -⟩ := KY7.out.five) | (go_at_call 28; refine (HL.out _ BX7.out).mono ?_; rintro en w5 ⟨rfl, b5⟩; have BX5 := Lib.hid (BX7.out.trans (b5.mono BX7.out.size)); have KX5 := Lib.hid (KX7.out.below b5 KX7.out.lt); have KY5 := Lib.hid (KY7.out.below b5 KY7.out.lt); clear b5; obtain ⟨⟨x0, x1, x2, x3, x4⟩, -⟩ := KX5.out.five; obtain ⟨⟨y0, y1, y2, y3, y4⟩, -⟩ := KY5.out.five))
          go_ret
          exact ⟨by rw [HR.out]; rfl, BC.out.trans (BX5.out.mono BC.out.size)⟩
      ·have b1 : (ac != ac') = true := by rw [bne_iff_ne]; exact qac
       have HR := Lib.hid (show R = false by rw [HE.out]; exact NO.out (by rw [EQ.out]; simp [qac]))
       subst qk
       go_wp2_with fail
       go_ret
       exact ⟨by rw [HR.out]; rfl, BC.out⟩
     ·have b1 : (k != k') = true := by rw [bne_iff_ne]; exact qk
      have HR := Lib.hid (show R = false by rw [HE.out]; exact NO.out (by rw [EQ.out]; simp [qk]))
      go_wp2_with fail
      go_ret
      exact ⟨by rw [HR.out]; rfl, BC.out⟩
   ·have hl1 : ¬ (i : Int) < (n : Int) := by omega
    have HT := Lib.hid (show R = true by
     have h := HS.out
     rw [HE.out]
     rwa [List.take_of_length_le (by rw [elems_len, ← HN.out]; omega), List.take_of_length_le (by rw [elems_len, ← HM.out]; omega)] at h)
    clear hlt hi
    go_wp2_with fail
    go_ret
    exact ⟨by rw [HT.out]; rfl, HB.out⟩
 ·have b1 : ((n : Int) != (m : Int)) = true := by rw [bne_iff_ne]; omega
  have HR := Lib.hid (show R = false by rw [HE.out]; exact sameL_len _ _ (by rw [elems_len, elems_len, ← HN.out, ← HM.out]; exact hnm))
  go_enter Tryz.func12, Tryz.ntmps12
  go_wp2_with fail
  go_ret
  exact ⟨by rw [HR.out]; rfl, Below.refl _ _⟩
theorem rsam_row_e {l : X} (hl : l.fit 100000) (H : ∀ y ∈ l.elems, SamQ y) : RSamE l := fun m w P Q v u hm h h2 => by
 obtain ⟨A, c, rfl⟩ := sl_slice h
 obtain ⟨B, d, rfl⟩ := sl_slice h2
 exact rsam_e w P Q l m A B l.len m.len c d h h2 hl hm H
theorem rsam_row_s {l : X} (hl : l.fit 100000) (H : ∀ y ∈ l.elems, SamQ y) : RSamS l := fun m w P Q v u hm h h2 => by
 obtain ⟨A, c, rfl⟩ := sl_slice h
 obtain ⟨B, d, rfl⟩ := sl_slice h2
 exact rsam_s w P Q l m A B l.len m.len c d h h2 hl hm H
theorem rsam_all (x : X) : SamQ x ∧ ∀ y ∈ x.elems, SamQ y :=
 X.all (S := SamQ) (fun _ _ _ _ _ _ f hl hf fit => ⟨rsam_row_e fit.1.1 hl, fun y hy ps b e => by subst e; exact hf _ hy (fit_elems f fit.1.2 _ hy)⟩)
  (fun _ _ hb fit => rsam_row_s fit.1.2 hb) (fun _ _ _ _ b hl hb fit => ⟨rsam_row_e fit.1.2.1 hl, fun y hy m e => by subst e; exact hb _ hy (fit_elems b fit.1.2.2 _ hy)⟩)
  (fun _ hl fit => rsam_row_s fit hl) (fun _ => trivial) (fun _ _ _ => trivial) x
theorem rsam_any {l : X} (hl : l.fit 100000) : RSamS l := rsam_row_s hl (rsam_all l).2
end Go.Proofs.YtbcjpnmakcmndaaGreatDoor
