/- Texts of one proof behind one another: PrJ, PrV. -/
import Derived.Test.YteakhlnnepjhpaaKc
/- The document's parser: a join; rows newly made. -/
namespace Go.Proofs.Yteakhlnnepjhpaa
open Go.RowKit PrM
set_option linter.unusedVariables false
/-- A row newly made out of elements. -/
theorem sl_new {w : World} {P Q : Nat → Prop} {x : X} {z : Nat} {ys : List Value} (h : (Rd w P x).own z ys) (C : Array Value) (ty : TypeId) (hC : C = ys.toArray) (hQ : ∀ k, P k → k < w.heap.size → Q k) (hQ2 : Q w.heap.size) : Sl x.len (Rd (w.alloc (.cells C ty)) Q x).row z (.slice (some ⟨w.heap.size, 0, none⟩) x.len x.len) := by
 subst hC
 have b : Below w.heap.size w (w.alloc (.cells ys.toArray ty)) := (Below.refl _ w).alloc (Nat.le_refl _) _
 have h2 := (Rd.move (Moves.of_below b hQ) x).2.2 _ _ h
 refine ⟨_, _, rfl, (fun e => nomatch e), Nat.le_refl _, Rd.row_of x z ⟨w.heap.size, 0, none⟩ 0 ys h2 hQ2 (by show _ < (w.heap.push _).size; simp) fun j u hu => ?_⟩
 have e : (⟨w.heap.size, 0, none⟩ : Addr).add (0 + j) = ⟨w.heap.size, j, none⟩ := by
  unfold Addr.add; split <;> simp_all
 rw [e, World.cell?_alloc_mark]
 simpa using hu
theorem own_one {w : World} {P : Nat → Prop} {x : X} {cs : Array Value} {z : Nat} (h : (Rd w P x).cells cs) (hz : cs.size = z) : (Rd w P (X.one x)).own z cs.toList := ⟨cs, [], by simp, hz, h, rfl⟩
theorem own_two {w : World} {P : Nat → Prop} {x y : X} {cs ds : Array Value} {z : Nat} (h : (Rd w P x).cells cs) (k : (Rd w P y).cells ds) (hz : cs.size = z) (kz : ds.size = z) : (Rd w P (X.two x y)).own z (cs.toList ++ ds.toList) := ⟨cs, ds.toList, rfl, hz, h, ds, [], by simp, kz, k, rfl⟩
theorem sl_nil (w : World) (P : Nat → Prop) (z : Nat) : Sl X.nil.len (Rd w P .nil).row z (.slice none 0 0) := ⟨none, 0, rfl, fun _ => rfl, Nat.le_refl _, trivial⟩
/-- A box that holds what a call has answered. -/
theorem box7 (w : World) (cs : Array Value) (C : Array Value) : ∃ w2, w2 = (w.alloc (.cells C 39)).setRow w.heap.size cs ∧ Hid (Below w.heap.size w w2) ∧ Hid (Blk w2 w.heap.size cs 39) ∧ Hid (w.heap.size < w2.heap.size) := by
 have k := blk_row (cs := cs) (Blk.new w C 39)
 exact ⟨_, rfl, below_row ((Below.refl _ w).alloc (Nat.le_refl _) _) _ (Nat.le_refl _) _, k, k.lt⟩
theorem mv_cells {w w' w0 : World} {g : Nat} {x : X} {cs : Array Value} (o : Only (fun b => b = g) w w') (hg : g < w0.heap.size) (rd : (Rd w (Lo w0) x).cells cs) : (Rd w' (Lo w0) x).cells cs :=
 (Rd.move (Moves.of_only o (fun k hk _ e => by unfold Lo at hk; omega) (fun k hk _ => hk)) x).1 _ rd
theorem Blk.sm {W W' : World} {b : Nat} {c : Array Value} {t : TypeId} (h : Blk W b c t) (m : Sm W W') : Blk W' b c t := by show W'.heap[b]? = _; rw [m.heap]; exact h
theorem al_lt (W : World) (o : Obj) : W.heap.size < (W.alloc o).heap.size := by show _ < (W.heap.push _).size; simp
theorem mv_below {w w' : World} {P : Nat → Prop} {x : X} {cs : Array Value} (b : Below w.heap.size w w') (rd : (Rd w P x).cells cs) : (Rd w' P x).cells cs := (Rd.move (Moves.of_below b fun _ hk _ => hk) x).1 _ rd
theorem wide_cells {w w0 w1 : World} {x : X} {cs : Array Value} (h : w0.heap.size ≤ w1.heap.size) (rd : (Rd w (Lo w1) x).cells cs) : (Rd w (Lo w0) x).cells cs :=
 (Rd.move (Moves.of_below (Below.refl _ w) fun k hk _ => by unfold Lo at *; omega) x).1 _ rd
/-- An expression of two. -/
theorem bin_cells (w : World) (k a op : Int) {w0 : World} {x y : X} {v0 v1 v2 v3 v4 v5 v6 u0 u1 u2 u3 u4 u5 u6 : Value} (hx : (Rd w (Lo w0) x).cells #[v0, v1, v2, v3, v4, v5, v6]) (hy : (Rd w (Lo w0) y).cells #[u0, u1, u2, u3, u4, u5, u6]) (h0 : w0.heap.size ≤ w.heap.size) :
  (Rd (w.alloc (.cells #[v0, v1, v2, v3, v4, v5, v6, u0, u1, u2, u3, u4, u5, u6] 39)) (Lo w0) (.e k a 0 ⟨#[]⟩ op (X.two x y) .nil)).cells #[.int .i64 k, .int .i64 a, .int .i64 0, .string ⟨#[]⟩, .int .i64 op, .slice (some ⟨w.heap.size, 0, none⟩) 2 2, .slice none 0 0] :=
 ⟨_, _, rfl, sl_new (own_two hx hy rfl rfl) _ _ rfl (fun _ hk _ => hk) h0, sl_nil _ _ _⟩
theorem Only.bel {F : Nat → Prop} {a b c : World} (h : Only F a b) (k : Below b.heap.size b c) : Only F a c := h.up (Only.of_below k)
section
variable {F g tg c : Nat} {T : List LxM.T}
theorem deep_i (d : Int) (st : St) : (deep T d st).i = st.i := by
 unfold PrM.deep PrM.fail
 split
 ·split <;> rfl
 ·rfl
theorem deep_code (d : Nat) (st : St) (h : (deep T (d : Int) st).code = 0) : d ≤ 100 ∧ st.code = 0 := by
 unfold PrM.deep PrM.fail at h
 split at h
 ·split at h
  ·cases h
  ·contradiction
 ·exact ⟨by omega, h⟩
theorem up_i (st : St) : (up st).i = st.i + 1 := rfl
theorem up_code (st : St) : (up st).code = st.code := rfl
set_option maxRecDepth 20000 in
set_option maxHeartbeats 8000000 in
theorem join_any (hG : PrM.Good T) (hF : OkF g tg c T F) (W : World) (st : St) (d : Nat) (h : PS W g tg c T st) (h0 : st.code = 0) (hd : d ≤ 100) (hm : 100 * (101 - d) + 13 ≤ F + 1) : Calls Try.prog 58 #[ptr g, .int .i64 (d : Int)] W (RE W g tg c T st ((fs T (F + 1)).join d st)) := by
 have LV := Lib.hid (hF.level _ st 4 d (h.alloc (.cells Z7 39)) (by omega) (by omega) (fun _ => hd) (by omega))
 have JN := Lib.hid (fun W1 st1 (h1 : PS W1 g tg c T st1) (e1 : st1.code = 0) (k : d + 1 ≤ 100) => hF.join W1 st1 (d + 1) h1 e1 k (by omega))
 have e1 : (fs T (F + 1)).join (d : Int) st = joinS T (fs T F) d st := rfl
 rw [e1]
 unfold PrM.joinS
 have B0 := Lib.hid (Only.of_below (F := fun b => b = g) ((Below.refl W.heap.size W).alloc (Nat.le_refl _) (.cells Z7 39)))
 have K0 := Lib.hid (Blk.new W Z7 39)
 have HG := Lib.hid h.blk.lt
 have i0 : (0 : Int) ≤ (d : Int) := by omega
 have i1 : (d : Int) ≤ 100 := by omega
 have HGG := Lib.hid hG
 generalize (fs T F).level 4 (d : Int) st = a at *
 obtain ⟨x, st1⟩ := a
 dsimp only at *
 obtain ⟨bv, ebv⟩ : ∃ bv, is T ⟨#[46, 46]⟩ st1 = bv := ⟨_, rfl⟩
 have OP := Lib.hid (fun W1 (h1 : PS W1 g tg c T st1) => opt_any h1 HGG.out ⟨#[46, 46]⟩)
 unfold PrM.opt at OP
 rw [ebv] at OP ⊢
 clear h hF hm e1 hd ebv hG
 cases bv
 ·rw [if_neg (by decide)] at OP ⊢
  go_enter Try.func58, Try.ntmps58
  go_wp2_with (first
   |(go_at_call 48; refine LV.out.mono ?_; rintro e w1 ⟨⟨v0, v1, v2, v3, v4, v5, v6, rfl, rd⟩, p1, o1, ii⟩; have P1 := Lib.hid p1; have O1 := Lib.hid (B0.out.up o1); have K1 := Lib.hid (K0.out.only o1 (by have := HG.out; omega)); have RD := Lib.hid rd; have II := Lib.hid ii; have S1 := Lib.hid o1.size; have NB := Lib.hid (Blk.new w1 Z7 39); clear p1 o1 rd ii)
   |(refine wpList_store_row rfl 39 (.tmp 5) (.tmp 10) rfl w1.heap.size #[v0, v1, v2, v3, v4, v5, v6] rfl rfl 39 _ NB.out sizeE rfl (ones7 (Rd.one_cells _ _ RD.out)) ?_; obtain ⟨w2, hw2, B2, K5, S2⟩ := box7 w1 #[v0, v1, v2, v3, v4, v5, v6] Z7; rw [← hw2]; clear hw2 NB; have P2 := Lib.hid (P1.out.only (Only.of_below (F := fun _ => False) B2.out) (fun _ f => f.elim)))
   |(go_at_call 34; refine (place_any P2.out).mono ?_; rintro e w3 ⟨rfl, sm⟩; have P3 := Lib.hid (P2.out.sm sm); have B3 := Lib.hid (B2.out.trans ((sm.below _).mono B2.out.size)); have K53 := Lib.hid (K5.out.sm sm); have K13 := Lib.hid (K1.out.below B3.out K1.out.lt); clear sm)
   |(go_at_call 35; refine (OP.out _ P3.out).mono ?_; rintro e w4 ⟨rfl, p4, o4⟩; have P4 := Lib.hid p4; have O4 := Lib.hid ((O1.out.bel B3.out).up o4); have R4 := Lib.hid (mv_cells ((Only.of_below (F := fun b => b = g) B3.out).up o4) (by have := HG.out; have := al_lt W (.cells Z7 39); omega) RD.out); have K54 := Lib.hid (K53.out.only o4 (by have := HG.out; have := S1.out; have := al_lt W (.cells Z7 39); omega)); have K14 := Lib.hid (K13.out.only o4 (by have := HG.out; omega)); clear p4 o4; obtain ⟨⟨a0, a1, a2, a3, a4, a5, a6⟩, -⟩ := K54.out.seven)
   |(refine wpList_store_row rfl 39 (.tmp 4) (.tmp 16) rfl W.heap.size #[v0, v1, v2, v3, v4, v5, v6] rfl rfl 39 _ K14.out sizeE rfl (ones7 (Rd.one_cells _ _ R4.out)) ?_)
   |(refine wp_store_row 39 (.tmp 4) (.tmp 16) rfl W.heap.size #[v0, v1, v2, v3, v4, v5, v6] rfl rfl 39 _ K14.out sizeE rfl (ones7 (Rd.one_cells _ _ R4.out)) ?_))
  refine bodyPost_ret (res7 rfl _ _ W.heap.size v0 v1 v2 v3 v4 v5 v6 rfl (blk_row K14.out)) rfl ?_
  exact RE.end_ HG.out (Nat.le_refl _) (al_lt W _) R4.out P4.out O4.out II.out
 ·rw [if_pos rfl] at OP ⊢
  have DP := Lib.hid (fun W1 (h1 : PS W1 g tg c T (up st1)) => deep_any h1 ((d + 1 : Nat) : Int))
  have hdi := deep_i (T := T) ((d + 1 : Nat) : Int) (up st1)
  have hdc := deep_code (T := T) (d + 1) (up st1)
  rw [show ((d : Int) + 1) = ((d + 1 : Nat) : Int) by omega]
  generalize deep T ((d + 1 : Nat) : Int) (up st1) = st2 at *
  have HDI := Lib.hid hdi
  have HDC := Lib.hid hdc
  clear hdi hdc
  by_cases q : st2.code = 0
  ·rw [if_neg (by simpa using q)]
   have q1 : (st2.code != 0) = false := by rw [q]; rfl
   have JN2 := Lib.hid (fun W1 (h1 : PS W1 g tg c T st2) => JN.out W1 st2 h1 q (HDC.out q).1)
   generalize (fs T F).join ((d + 1 : Nat) : Int) st2 = r2 at *
   clear q
   go_enter Try.func58, Try.ntmps58
   go_wp2_with (first
    |(go_at_call 48; refine LV.out.mono ?_; rintro e w1 ⟨⟨v0, v1, v2, v3, v4, v5, v6, rfl, rd⟩, p1, o1, ii⟩; have P1 := Lib.hid p1; have O1 := Lib.hid (B0.out.up o1); have K1 := Lib.hid (K0.out.only o1 (by have := HG.out; omega)); have RD := Lib.hid rd; have II := Lib.hid ii; have S1 := Lib.hid o1.size; have NB := Lib.hid (Blk.new w1 Z7 39); clear p1 o1 rd ii)
    |(refine wpList_store_row rfl 39 (.tmp 5) (.tmp 10) rfl w1.heap.size #[v0, v1, v2, v3, v4, v5, v6] rfl rfl 39 _ NB.out sizeE rfl (ones7 (Rd.one_cells _ _ RD.out)) ?_; obtain ⟨w2, hw2, B2, K5, S2⟩ := box7 w1 #[v0, v1, v2, v3, v4, v5, v6] Z7; rw [← hw2]; clear hw2 NB; have P2 := Lib.hid (P1.out.only (Only.of_below (F := fun _ => False) B2.out) (fun _ f => f.elim)))
    |(go_at_call 34; refine (place_any P2.out).mono ?_; rintro e w3 ⟨rfl, sm⟩; have P3 := Lib.hid (P2.out.sm sm); have B3 := Lib.hid (B2.out.trans ((sm.below _).mono B2.out.size)); have K53 := Lib.hid (K5.out.sm sm); have K13 := Lib.hid (K1.out.below B3.out K1.out.lt); clear sm)
    |(go_at_call 35; refine (OP.out _ P3.out).mono ?_; rintro e w4 ⟨rfl, p4, o4⟩; have P4 := Lib.hid p4; have O4 := Lib.hid ((O1.out.bel B3.out).up o4); have R4 := Lib.hid (mv_cells ((Only.of_below (F := fun b => b = g) B3.out).up o4) (by have := HG.out; have := al_lt W (.cells Z7 39); omega) RD.out); have K54 := Lib.hid (K53.out.only o4 (by have := HG.out; have := S1.out; have := al_lt W (.cells Z7 39); omega)); have K14 := Lib.hid (K13.out.only o4 (by have := HG.out; omega)); clear p4 o4; obtain ⟨⟨a0, a1, a2, a3, a4, a5, a6⟩, -⟩ := K54.out.seven)
    |(go_at_call 32; refine (DP.out _ P4.out).mono ?_; rintro e w5 ⟨rfl, p5, o5⟩; have P5 := Lib.hid p5; have O5 := Lib.hid (O4.out.up o5); have R5 := Lib.hid (mv_cells o5 (by have := HG.out; have := al_lt W (.cells Z7 39); omega) R4.out); have K55 := Lib.hid (K54.out.only o5 (by have := HG.out; have := S1.out; have := al_lt W (.cells Z7 39); omega)); have K15 := Lib.hid (K14.out.only o5 (by have := HG.out; omega)); clear p5 o5 a0 a1 a2 a3 a4 a5 a6; obtain ⟨⟨a0, a1, a2, a3, a4, a5, a6⟩, -⟩ := K55.out.seven; obtain ⟨⟨d0, d1, d2, d3⟩, -⟩ := P5.out.blk.four)
    |(go_at_call 58; refine (JN2.out _ P5.out).mono ?_; rintro e w6 ⟨⟨u0, u1, u2, u3, u4, u5, u6, rfl, rd6⟩, p6, o6, i6⟩; have P6 := Lib.hid p6; have O6 := Lib.hid (O5.out.up o6); have R6 := Lib.hid (mv_cells o6 (by have := HG.out; have := al_lt W (.cells Z7 39); omega) R5.out); have K56 := Lib.hid (K55.out.only o6 (by have := HG.out; have := S1.out; have := al_lt W (.cells Z7 39); omega)); have K16 := Lib.hid (K15.out.only o6 (by have := HG.out; omega)); have RY := Lib.hid rd6; have I6 := Lib.hid i6; have S5 := Lib.hid O5.out.size; have NB6 := Lib.hid (Blk.new w6 Z7 39); clear p6 o6 rd6 i6 a0 a1 a2 a3 a4 a5 a6 d0 d1 d2 d3)
    |(refine wpList_store_row rfl 39 (.tmp 7) (.tmp 30) rfl w6.heap.size #[u0, u1, u2, u3, u4, u5, u6] rfl rfl 39 _ NB6.out sizeE rfl (ones7 (Rd.one_cells _ _ RY.out)) ?_; obtain ⟨w7, hw7, B7, K77, S7⟩ := box7 w6 #[u0, u1, u2, u3, u4, u5, u6] Z7; rw [← hw7]; clear hw7 NB6; have K57 := Lib.hid (K56.out.below B7.out K56.out.lt); have K17 := Lib.hid (K16.out.below B7.out K16.out.lt); obtain ⟨⟨a0, a1, a2, a3, a4, a5, a6⟩, -⟩ := K57.out.seven; obtain ⟨⟨b0, b1, b2, b3, b4, b5, b6⟩, -⟩ := K77.out.seven; have RF := Lib.hid (bin_cells w7 (14 : Int) (place T st1) 6 (mv_below B7.out R6.out) (mv_below B7.out (wide_cells (show (W.alloc (.cells Z7 39)).heap.size ≤ w5.heap.size by have := S5.out; have := K15.out.lt; show (W.heap.push _).size ≤ _; simp; omega) RY.out)) (show (W.alloc (.cells Z7 39)).heap.size ≤ w7.heap.size by have := K17.out.lt; show (W.heap.push _).size ≤ _; simp; omega)); have K18 := Lib.hid (K17.out.below ((Below.refl _ w7).alloc (Nat.le_refl _) (.cells #[v0, v1, v2, v3, v4, v5, v6, u0, u1, u2, u3, u4, u5, u6] 39)) K17.out.lt); have P8 := Lib.hid ((P6.out.only (Only.of_below (F := fun _ => False) B7.out) (fun _ f => f.elim)).alloc (.cells #[v0, v1, v2, v3, v4, v5, v6, u0, u1, u2, u3, u4, u5, u6] 39)); have O8 := Lib.hid ((O6.out.bel B7.out).alloc (.cells #[v0, v1, v2, v3, v4, v5, v6, u0, u1, u2, u3, u4, u5, u6] 39)))
    |(refine wpList_store_row rfl 39 (.tmp 4) (.tmp 35) rfl W.heap.size #[.int .i64 14, .int .i64 (place T st1), .int .i64 0, .string ⟨#[]⟩, .int .i64 6, .slice (some ⟨w7.heap.size, 0, none⟩) 2 2, .slice none 0 0] rfl rfl 39 _ K18.out sizeE rfl (ones7 (Rd.one_cells _ _ RF.out)) ?_)
    |(refine wp_store_row 39 (.tmp 4) (.tmp 35) rfl W.heap.size #[.int .i64 14, .int .i64 (place T st1), .int .i64 0, .string ⟨#[]⟩, .int .i64 6, .slice (some ⟨w7.heap.size, 0, none⟩) 2 2, .slice none 0 0] rfl rfl 39 _ K18.out sizeE rfl (ones7 (Rd.one_cells _ _ RF.out)) ?_))
   refine bodyPost_ret (res7 rfl _ _ W.heap.size _ _ _ _ _ _ _ rfl (blk_row K18.out)) rfl ?_
   exact RE.end_ HG.out (Nat.le_refl _) (al_lt W (.cells Z7 39)) RF.out P8.out O8.out (by have := II.out; have := HDI.out; have := I6.out; rw [up_i] at *; show st.i ≤ r2.2.i; omega)
  ·rw [if_pos (by simpa using q)]
   have q1 : (st2.code != 0) = true := by simpa using q
   clear q
   go_enter Try.func58, Try.ntmps58
   go_wp2_with (first
    |(go_at_call 48; refine LV.out.mono ?_; rintro e w1 ⟨⟨v0, v1, v2, v3, v4, v5, v6, rfl, rd⟩, p1, o1, ii⟩; have P1 := Lib.hid p1; have O1 := Lib.hid (B0.out.up o1); have K1 := Lib.hid (K0.out.only o1 (by have := HG.out; omega)); have RD := Lib.hid rd; have II := Lib.hid ii; have S1 := Lib.hid o1.size; have NB := Lib.hid (Blk.new w1 Z7 39); clear p1 o1 rd ii)
    |(refine wpList_store_row rfl 39 (.tmp 5) (.tmp 10) rfl w1.heap.size #[v0, v1, v2, v3, v4, v5, v6] rfl rfl 39 _ NB.out sizeE rfl (ones7 (Rd.one_cells _ _ RD.out)) ?_; obtain ⟨w2, hw2, B2, K5, S2⟩ := box7 w1 #[v0, v1, v2, v3, v4, v5, v6] Z7; rw [← hw2]; clear hw2 NB; have P2 := Lib.hid (P1.out.only (Only.of_below (F := fun _ => False) B2.out) (fun _ f => f.elim)))
    |(go_at_call 34; refine (place_any P2.out).mono ?_; rintro e w3 ⟨rfl, sm⟩; have P3 := Lib.hid (P2.out.sm sm); have B3 := Lib.hid (B2.out.trans ((sm.below _).mono B2.out.size)); have K53 := Lib.hid (K5.out.sm sm); have K13 := Lib.hid (K1.out.below B3.out K1.out.lt); clear sm)
    |(go_at_call 35; refine (OP.out _ P3.out).mono ?_; rintro e w4 ⟨rfl, p4, o4⟩; have P4 := Lib.hid p4; have O4 := Lib.hid ((O1.out.bel B3.out).up o4); have R4 := Lib.hid (mv_cells ((Only.of_below (F := fun b => b = g) B3.out).up o4) (by have := HG.out; have := al_lt W (.cells Z7 39); omega) RD.out); have K54 := Lib.hid (K53.out.only o4 (by have := HG.out; have := S1.out; have := al_lt W (.cells Z7 39); omega)); have K14 := Lib.hid (K13.out.only o4 (by have := HG.out; omega)); clear p4 o4; obtain ⟨⟨a0, a1, a2, a3, a4, a5, a6⟩, -⟩ := K54.out.seven)
    |(go_at_call 32; refine (DP.out _ P4.out).mono ?_; rintro e w5 ⟨rfl, p5, o5⟩; have P5 := Lib.hid p5; have O5 := Lib.hid (O4.out.up o5); have R5 := Lib.hid (mv_cells o5 (by have := HG.out; have := al_lt W (.cells Z7 39); omega) R4.out); have K55 := Lib.hid (K54.out.only o5 (by have := HG.out; have := S1.out; have := al_lt W (.cells Z7 39); omega)); have K15 := Lib.hid (K14.out.only o5 (by have := HG.out; omega)); clear p5 o5 a0 a1 a2 a3 a4 a5 a6; obtain ⟨⟨a0, a1, a2, a3, a4, a5, a6⟩, -⟩ := K55.out.seven; obtain ⟨⟨d0, d1, d2, d3⟩, -⟩ := P5.out.blk.four)
    |(refine wpList_store_row rfl 39 (.tmp 4) (.tmp 26) rfl W.heap.size #[v0, v1, v2, v3, v4, v5, v6] rfl rfl 39 _ K15.out sizeE rfl (ones7 (Rd.one_cells _ _ R5.out)) ?_)
    |(refine wp_store_row 39 (.tmp 4) (.tmp 26) rfl W.heap.size #[v0, v1, v2, v3, v4, v5, v6] rfl rfl 39 _ K15.out sizeE rfl (ones7 (Rd.one_cells _ _ R5.out)) ?_))
   refine bodyPost_ret (res7 rfl _ _ W.heap.size v0 v1 v2 v3 v4 v5 v6 rfl (blk_row K15.out)) rfl ?_
   exact RE.end_ HG.out (Nat.le_refl _) (al_lt W _) R5.out P5.out O5.out (by have := II.out; have := HDI.out; rw [up_i] at this; show st.i ≤ st2.i; omega)
end
end Go.Proofs.Yteakhlnnepjhpaa
/- The document's parser: signs ahead (printed by genpr1.py). -/
namespace Go.Proofs.Yteakhlnnepjhpaa
open Go.RowKit PrM
set_option linter.unusedVariables false
set_option linter.unusedSimpArgs false
theorem only_set {g : Nat} (w : World) (u : Value) : Only (fun b => b = g) w (w.setCell ⟨g, 1, none⟩ u) := (Only.refl (fun b => b = g) w).setCell (p := ⟨g, 1, none⟩) (.inl rfl) u
theorem PS.inc {W : World} {g tg c : Nat} {T : List LxM.T} {st : St} (h : PS W g tg c T st) (hi : st.i + 1 < T.length) : PS (W.setCell ⟨g, 1, none⟩ (.int .i64 ((st.i : Int) + 1))) g tg c T (up st) :=
 h.put (blkS1 h.blk (.int .i64 ((st.i + 1 : Nat) : Int))) (only_set W _) hi
/-- A row of one. -/
theorem one_cells7 (w : World) (k a : Int) {w0 : World} {y : X} {u0 u1 u2 u3 u4 u5 u6 : Value} (hy : (Rd w (Lo w0) y).cells #[u0, u1, u2, u3, u4, u5, u6]) (h0 : w0.heap.size ≤ w.heap.size) :
  (Rd (w.alloc (.cells #[u0, u1, u2, u3, u4, u5, u6] 39)) (Lo w0) (.e k a 0 ⟨#[]⟩ 0 (X.one y) .nil)).cells #[.int .i64 k, .int .i64 a, .int .i64 0, .string ⟨#[]⟩, .int .i64 0, .slice (some ⟨w.heap.size, 0, none⟩) 1 1, .slice none 0 0] :=
 ⟨_, _, rfl, sl_new (own_one hy rfl) _ _ rfl (fun _ hk _ => hk) h0, sl_nil _ _ _⟩
theorem leaf_cells (w : World) (P : Nat → Prop) (k a n : Int) (s : ByteArray) (op : Int) : (Rd w P (.e k a n s op .nil .nil)).cells #[.int .i64 k, .int .i64 a, .int .i64 n, .string s, .int .i64 op, .slice none 0 0, .slice none 0 0] :=
 ⟨_, _, rfl, sl_nil _ _ _, sl_nil _ _ _⟩
section
variable {F g tg c : Nat} {T : List LxM.T}
set_option maxRecDepth 20000 in
set_option maxHeartbeats 8000000 in
theorem unary_any (hG : PrM.Good T) (hF : OkF g tg c T F) (W : World) (st : St) (d : Nat) (h : PS W g tg c T st) (h0 : st.code = 0) (hd : d ≤ 100) (hm : 100 * (101 - d) + 7 ≤ F + 1) : Calls Try.prog 59 #[ptr g, .int .i64 (d : Int)] W (RE W g tg c T st ((fs T (F + 1)).unary d st)) := by
 have PT := Lib.hid (fun W1 (h1 : PS W1 g tg c T st) => hF.post W1 st d h1 hd (by omega))
 have UN := Lib.hid (fun W1 st1 (h1 : PS W1 g tg c T st1) (e1 : st1.code = 0) (k : d + 1 ≤ 100) => hF.unary W1 st1 (d + 1) h1 e1 k (by omega))
 have e1 : (fs T (F + 1)).unary (d : Int) st = unaryS T (fs T F) d st := rfl
 rw [e1]
 unfold PrM.unaryS
 have B0 := Lib.hid (Only.of_below (F := fun b => b = g) ((Below.refl W.heap.size W).alloc (Nat.le_refl _) (.cells Z7 39)))
 have K4_0 := Lib.hid (Blk.new W Z7 39)
 have HG := Lib.hid h.blk.lt
 have G4 := HG
 have HW0 : Hid (g < (W.alloc (.cells Z7 39)).heap.size) := Nat.lt_trans HG.out (al_lt W _)
 have P0 := Lib.hid (h.alloc (.cells Z7 39))
 have O0 := Lib.hid (Only.refl (fun b => b = g) (W.alloc (.cells Z7 39)))
 have i0 : (0 : Int) ≤ (d : Int) := by omega
 have i1 : (d : Int) ≤ 101 := by omega
 have HGG := Lib.hid hG
 have DP := Lib.hid (fun W1 (h1 : PS W1 g tg c T (up st)) => deep_any h1 ((d + 1 : Nat) : Int))
 have HDI := Lib.hid (deep_i (T := T) ((d + 1 : Nat) : Int) (up st))
 have HDC := Lib.hid (deep_code (T := T) (d + 1) (up st))
 rw [show ((d : Int) + 1) = ((d + 1 : Nat) : Int) by omega]
 generalize deep T ((d + 1 : Nat) : Int) (up st) = st2 at *
 unfold PrM.unK
 have ON := Lib.hid (fun W1 (h1 : PS W1 g tg c T st) => opt_any h1 HGG.out ⟨#[110, 111, 116]⟩)
 have OM := Lib.hid (fun W1 (h1 : PS W1 g tg c T st) => opt_any h1 HGG.out ⟨#[45]⟩)
 have OL := Lib.hid (fun W1 (h1 : PS W1 g tg c T st) => opt_any h1 HGG.out ⟨#[35]⟩)
 unfold PrM.opt at ON OM OL
 generalize is T ⟨#[110, 111, 116]⟩ st = bn at *
 generalize is T ⟨#[45]⟩ st = bm at *
 generalize is T ⟨#[35]⟩ st = bl at *
 generalize (fs T F).post (d : Int) st = rp at *
 clear h hF hm e1 hd hG h0
 cases bn
 ·cases bm
  ·cases bl
   ·rw [if_neg (by decide)] at ON OM OL
    simp only [Bool.false_eq_true, ↓reduceIte]
    go_enter Try.func59, Try.ntmps59
    go_wp2_with (first
     |(go_at_call 34; with_reducible refine (place_any P0.out).mono ?_; rintro e w1 ⟨rfl, sm⟩; have P1 := Lib.hid (P0.out.sm sm); have O1 := Lib.hid (O0.out.bel (sm.below _)); have K4_1 := Lib.hid (K4_0.out.sm sm); clear sm)
     |(go_at_call 35; with_reducible refine (ON.out _ P1.out).mono ?_; rintro e w2 ⟨rfl, p, o⟩; have P2 := Lib.hid (p); have O2 := Lib.hid (O1.out.up o); have K4_2 := Lib.hid (K4_1.out.only o (by have := G4.out; omega)); clear p o)
     |(go_at_call 35; with_reducible refine (OM.out _ P2.out).mono ?_; rintro e w3 ⟨rfl, p, o⟩; have P3 := Lib.hid (p); have O3 := Lib.hid (O2.out.up o); have K4_3 := Lib.hid (K4_2.out.only o (by have := G4.out; omega)); clear p o)
     |(go_at_call 35; with_reducible refine (OL.out _ P3.out).mono ?_; rintro e w4 ⟨rfl, p, o⟩; have P4 := Lib.hid (p); have O4 := Lib.hid (O3.out.up o); have K4_4 := Lib.hid (K4_3.out.only o (by have := G4.out; omega)); clear p o)
     |(go_at_call 69; refine (PT.out _ P4.out).mono ?_; rintro e w5 ⟨⟨v0, v1, v2, v3, v4, v5, v6, rfl, rd⟩, p, o, ii⟩; have P5 := Lib.hid (p); have O5 := Lib.hid (O4.out.up o); have K4_5 := Lib.hid (K4_4.out.only o (by have := G4.out; omega)); have Rx_5 := Lib.hid (wide_cells O4.out.size rd); have Ix := Lib.hid ii; have NB5 := Lib.hid (Blk.new w5 Z7 39); clear p o rd ii)
     |(refine wpList_store_row rfl 39 (.tmp 4) (.tmp 11) rfl W.heap.size #[v0, v1, v2, v3, v4, v5, v6] rfl rfl 39 _ K4_5.out sizeE rfl (ones7 (Rd.one_cells _ _ Rx_5.out)) ?_)
     |(refine wp_store_row 39 (.tmp 4) (.tmp 11) rfl W.heap.size #[v0, v1, v2, v3, v4, v5, v6] rfl rfl 39 _ K4_5.out sizeE rfl (ones7 (Rd.one_cells _ _ Rx_5.out)) ?_))
    refine bodyPost_ret (res7 rfl _ _ W.heap.size _ _ _ _ _ _ _ rfl (blk_row K4_5.out)) rfl ?_
    exact RE.end_ HG.out (Nat.le_refl _) (al_lt W (.cells Z7 39)) Rx_5.out P5.out (B0.out.up O5.out) (Ix.out)
   ·rw [if_neg (by decide)] at ON OM
    rw [if_pos rfl] at OL
    simp only [Bool.false_eq_true, ↓reduceIte, Int.reduceEq]
    by_cases q : st2.code = 0
    ·rw [if_neg (by simpa using q)]
     have q1 : (st2.code != 0) = false := by rw [q]; rfl
     have UN2 := Lib.hid (fun W1 (h1 : PS W1 g tg c T st2) => UN.out W1 st2 h1 q (HDC.out q).1)
     generalize (fs T F).unary ((d + 1 : Nat) : Int) st2 = r2 at *
     clear q
     go_enter Try.func59, Try.ntmps59
     go_wp2_with (first
      |(go_at_call 34; with_reducible refine (place_any P0.out).mono ?_; rintro e w1 ⟨rfl, sm⟩; have P1 := Lib.hid (P0.out.sm sm); have O1 := Lib.hid (O0.out.bel (sm.below _)); have K4_1 := Lib.hid (K4_0.out.sm sm); clear sm)
      |(go_at_call 35; with_reducible refine (ON.out _ P1.out).mono ?_; rintro e w2 ⟨rfl, p, o⟩; have P2 := Lib.hid (p); have O2 := Lib.hid (O1.out.up o); have K4_2 := Lib.hid (K4_1.out.only o (by have := G4.out; omega)); clear p o)
      |(go_at_call 35; with_reducible refine (OM.out _ P2.out).mono ?_; rintro e w3 ⟨rfl, p, o⟩; have P3 := Lib.hid (p); have O3 := Lib.hid (O2.out.up o); have K4_3 := Lib.hid (K4_2.out.only o (by have := G4.out; omega)); clear p o)
      |(go_at_call 35; with_reducible refine (OL.out _ P3.out).mono ?_; rintro e w4 ⟨rfl, p, o⟩; have P4 := Lib.hid (p); have O4 := Lib.hid (O3.out.up o); have K4_4 := Lib.hid (K4_3.out.only o (by have := G4.out; omega)); clear p o)
      |(go_at_call 32; refine (DP.out _ P4.out).mono ?_; rintro e w5 ⟨rfl, p, o⟩; have P5 := Lib.hid (p); have O5 := Lib.hid (O4.out.up o); have K4_5 := Lib.hid (K4_4.out.only o (by have := G4.out; omega)); clear p o; obtain ⟨⟨d0, d1, d2, d3⟩, -⟩ := P5.out.blk.four)
      |(go_at_call 59; refine (UN2.out _ P5.out).mono ?_; rintro e w6 ⟨⟨u0, u1, u2, u3, u4, u5, u6, rfl, rd⟩, p, o, ii⟩; have P6 := Lib.hid (p); have O6 := Lib.hid (O5.out.up o); have K4_6 := Lib.hid (K4_5.out.only o (by have := G4.out; omega)); have Ry_6 := Lib.hid (wide_cells O5.out.size rd); have Iy := Lib.hid ii; have NB6 := Lib.hid (Blk.new w6 Z7 39); clear p o rd ii; have RF := Lib.hid (one_cells7 w6 (13 : Int) (place T st) Ry_6.out O6.out.size); have KF := Lib.hid (K4_6.out.below ((Below.refl _ w6).alloc (Nat.le_refl _) (.cells #[u0, u1, u2, u3, u4, u5, u6] 39)) K4_6.out.lt); have PF := Lib.hid (P6.out.alloc (.cells #[u0, u1, u2, u3, u4, u5, u6] 39)); have OF := Lib.hid (O6.out.alloc (.cells #[u0, u1, u2, u3, u4, u5, u6] 39)))
      |(refine wpList_store_row rfl 39 (.tmp 4) (.tmp 38) rfl W.heap.size #[.int .i64 13, .int .i64 (place T st), .int .i64 0, .string ⟨#[]⟩, .int .i64 0, .slice (some ⟨w6.heap.size, 0, none⟩) 1 1, .slice none 0 0] rfl rfl 39 _ KF.out sizeE rfl (ones7 (Rd.one_cells _ _ RF.out)) ?_)
      |(refine wp_store_row 39 (.tmp 4) (.tmp 38) rfl W.heap.size #[.int .i64 13, .int .i64 (place T st), .int .i64 0, .string ⟨#[]⟩, .int .i64 0, .slice (some ⟨w6.heap.size, 0, none⟩) 1 1, .slice none 0 0] rfl rfl 39 _ KF.out sizeE rfl (ones7 (Rd.one_cells _ _ RF.out)) ?_))
     refine bodyPost_ret (res7 rfl _ _ W.heap.size _ _ _ _ _ _ _ rfl (blk_row KF.out)) rfl ?_
     exact RE.end_ HG.out (Nat.le_refl _) (al_lt W (.cells Z7 39)) RF.out PF.out (B0.out.up OF.out) (by have := HDI.out; have := Iy.out; rw [up_i] at *; show st.i ≤ r2.2.i; omega)
    ·rw [if_pos (by simpa using q)]
     have q1 : (st2.code != 0) = true := by simpa using q
     have RZ := Lib.hid (fun w => leaf_cells w (Lo (W.alloc (.cells Z7 39))) 0 0 0 ⟨#[]⟩ 0)
     clear q
     go_enter Try.func59, Try.ntmps59
     go_wp2_with (first
      |(go_at_call 34; with_reducible refine (place_any P0.out).mono ?_; rintro e w1 ⟨rfl, sm⟩; have P1 := Lib.hid (P0.out.sm sm); have O1 := Lib.hid (O0.out.bel (sm.below _)); have K4_1 := Lib.hid (K4_0.out.sm sm); clear sm)
      |(go_at_call 35; with_reducible refine (ON.out _ P1.out).mono ?_; rintro e w2 ⟨rfl, p, o⟩; have P2 := Lib.hid (p); have O2 := Lib.hid (O1.out.up o); have K4_2 := Lib.hid (K4_1.out.only o (by have := G4.out; omega)); clear p o)
      |(go_at_call 35; with_reducible refine (OM.out _ P2.out).mono ?_; rintro e w3 ⟨rfl, p, o⟩; have P3 := Lib.hid (p); have O3 := Lib.hid (O2.out.up o); have K4_3 := Lib.hid (K4_2.out.only o (by have := G4.out; omega)); clear p o)
      |(go_at_call 35; with_reducible refine (OL.out _ P3.out).mono ?_; rintro e w4 ⟨rfl, p, o⟩; have P4 := Lib.hid (p); have O4 := Lib.hid (O3.out.up o); have K4_4 := Lib.hid (K4_3.out.only o (by have := G4.out; omega)); clear p o)
      |(go_at_call 32; refine (DP.out _ P4.out).mono ?_; rintro e w5 ⟨rfl, p, o⟩; have P5 := Lib.hid (p); have O5 := Lib.hid (O4.out.up o); have K4_5 := Lib.hid (K4_4.out.only o (by have := G4.out; omega)); clear p o; obtain ⟨⟨d0, d1, d2, d3⟩, -⟩ := P5.out.blk.four)
      |(refine wpList_store_row rfl 39 (.tmp 4) (.tmp 30) rfl W.heap.size Z7 rfl rfl 39 _ K4_5.out sizeE rfl (ones7 (Rd.one_cells _ _ (RZ.out w5))) ?_)
      |(refine wp_store_row 39 (.tmp 4) (.tmp 30) rfl W.heap.size Z7 rfl rfl 39 _ K4_5.out sizeE rfl (ones7 (Rd.one_cells _ _ (RZ.out w5))) ?_))
     refine bodyPost_ret (res7 rfl _ _ W.heap.size _ _ _ _ _ _ _ rfl (blk_row K4_5.out)) rfl ?_
     exact RE.end_ HG.out (Nat.le_refl _) (al_lt W (.cells Z7 39)) (RZ.out w5) P5.out (B0.out.up O5.out) (by have := HDI.out; rw [up_i] at this; show st.i ≤ st2.i; omega)
  ·rw [if_neg (by decide)] at ON
   rw [if_pos rfl] at OM
   simp only [Bool.false_eq_true, ↓reduceIte, Int.reduceEq]
   by_cases q : st2.code = 0
   ·rw [if_neg (by simpa using q)]
    have q1 : (st2.code != 0) = false := by rw [q]; rfl
    have UN2 := Lib.hid (fun W1 (h1 : PS W1 g tg c T st2) => UN.out W1 st2 h1 q (HDC.out q).1)
    generalize (fs T F).unary ((d + 1 : Nat) : Int) st2 = r2 at *
    clear q
    go_enter Try.func59, Try.ntmps59
    go_wp2_with (first
     |(go_at_call 34; with_reducible refine (place_any P0.out).mono ?_; rintro e w1 ⟨rfl, sm⟩; have P1 := Lib.hid (P0.out.sm sm); have O1 := Lib.hid (O0.out.bel (sm.below _)); have K4_1 := Lib.hid (K4_0.out.sm sm); clear sm)
     |(go_at_call 35; with_reducible refine (ON.out _ P1.out).mono ?_; rintro e w2 ⟨rfl, p, o⟩; have P2 := Lib.hid (p); have O2 := Lib.hid (O1.out.up o); have K4_2 := Lib.hid (K4_1.out.only o (by have := G4.out; omega)); clear p o)
     |(go_at_call 35; with_reducible refine (OM.out _ P2.out).mono ?_; rintro e w3 ⟨rfl, p, o⟩; have P3 := Lib.hid (p); have O3 := Lib.hid (O2.out.up o); have K4_3 := Lib.hid (K4_2.out.only o (by have := G4.out; omega)); clear p o)
     |(go_at_call 32; refine (DP.out _ P3.out).mono ?_; rintro e w4 ⟨rfl, p, o⟩; have P4 := Lib.hid (p); have O4 := Lib.hid (O3.out.up o); have K4_4 := Lib.hid (K4_3.out.only o (by have := G4.out; omega)); clear p o; obtain ⟨⟨d0, d1, d2, d3⟩, -⟩ := P4.out.blk.four)
     |(go_at_call 59; refine (UN2.out _ P4.out).mono ?_; rintro e w5 ⟨⟨u0, u1, u2, u3, u4, u5, u6, rfl, rd⟩, p, o, ii⟩; have P5 := Lib.hid (p); have O5 := Lib.hid (O4.out.up o); have K4_5 := Lib.hid (K4_4.out.only o (by have := G4.out; omega)); have Ry_5 := Lib.hid (wide_cells O4.out.size rd); have Iy := Lib.hid ii; have NB5 := Lib.hid (Blk.new w5 Z7 39); clear p o rd ii; have RF := Lib.hid (one_cells7 w5 (12 : Int) (place T st) Ry_5.out O5.out.size); have KF := Lib.hid (K4_5.out.below ((Below.refl _ w5).alloc (Nat.le_refl _) (.cells #[u0, u1, u2, u3, u4, u5, u6] 39)) K4_5.out.lt); have PF := Lib.hid (P5.out.alloc (.cells #[u0, u1, u2, u3, u4, u5, u6] 39)); have OF := Lib.hid (O5.out.alloc (.cells #[u0, u1, u2, u3, u4, u5, u6] 39)))
     |(refine wpList_store_row rfl 39 (.tmp 4) (.tmp 38) rfl W.heap.size #[.int .i64 12, .int .i64 (place T st), .int .i64 0, .string ⟨#[]⟩, .int .i64 0, .slice (some ⟨w5.heap.size, 0, none⟩) 1 1, .slice none 0 0] rfl rfl 39 _ KF.out sizeE rfl (ones7 (Rd.one_cells _ _ RF.out)) ?_)
     |(refine wp_store_row 39 (.tmp 4) (.tmp 38) rfl W.heap.size #[.int .i64 12, .int .i64 (place T st), .int .i64 0, .string ⟨#[]⟩, .int .i64 0, .slice (some ⟨w5.heap.size, 0, none⟩) 1 1, .slice none 0 0] rfl rfl 39 _ KF.out sizeE rfl (ones7 (Rd.one_cells _ _ RF.out)) ?_))
    refine bodyPost_ret (res7 rfl _ _ W.heap.size _ _ _ _ _ _ _ rfl (blk_row KF.out)) rfl ?_
    exact RE.end_ HG.out (Nat.le_refl _) (al_lt W (.cells Z7 39)) RF.out PF.out (B0.out.up OF.out) (by have := HDI.out; have := Iy.out; rw [up_i] at *; show st.i ≤ r2.2.i; omega)
   ·rw [if_pos (by simpa using q)]
    have q1 : (st2.code != 0) = true := by simpa using q
    have RZ := Lib.hid (fun w => leaf_cells w (Lo (W.alloc (.cells Z7 39))) 0 0 0 ⟨#[]⟩ 0)
    clear q
    go_enter Try.func59, Try.ntmps59
    go_wp2_with (first
     |(go_at_call 34; with_reducible refine (place_any P0.out).mono ?_; rintro e w1 ⟨rfl, sm⟩; have P1 := Lib.hid (P0.out.sm sm); have O1 := Lib.hid (O0.out.bel (sm.below _)); have K4_1 := Lib.hid (K4_0.out.sm sm); clear sm)
     |(go_at_call 35; with_reducible refine (ON.out _ P1.out).mono ?_; rintro e w2 ⟨rfl, p, o⟩; have P2 := Lib.hid (p); have O2 := Lib.hid (O1.out.up o); have K4_2 := Lib.hid (K4_1.out.only o (by have := G4.out; omega)); clear p o)
     |(go_at_call 35; with_reducible refine (OM.out _ P2.out).mono ?_; rintro e w3 ⟨rfl, p, o⟩; have P3 := Lib.hid (p); have O3 := Lib.hid (O2.out.up o); have K4_3 := Lib.hid (K4_2.out.only o (by have := G4.out; omega)); clear p o)
     |(go_at_call 32; refine (DP.out _ P3.out).mono ?_; rintro e w4 ⟨rfl, p, o⟩; have P4 := Lib.hid (p); have O4 := Lib.hid (O3.out.up o); have K4_4 := Lib.hid (K4_3.out.only o (by have := G4.out; omega)); clear p o; obtain ⟨⟨d0, d1, d2, d3⟩, -⟩ := P4.out.blk.four)
     |(refine wpList_store_row rfl 39 (.tmp 4) (.tmp 30) rfl W.heap.size Z7 rfl rfl 39 _ K4_4.out sizeE rfl (ones7 (Rd.one_cells _ _ (RZ.out w4))) ?_)
     |(refine wp_store_row 39 (.tmp 4) (.tmp 30) rfl W.heap.size Z7 rfl rfl 39 _ K4_4.out sizeE rfl (ones7 (Rd.one_cells _ _ (RZ.out w4))) ?_))
    refine bodyPost_ret (res7 rfl _ _ W.heap.size _ _ _ _ _ _ _ rfl (blk_row K4_4.out)) rfl ?_
    exact RE.end_ HG.out (Nat.le_refl _) (al_lt W (.cells Z7 39)) (RZ.out w4) P4.out (B0.out.up O4.out) (by have := HDI.out; rw [up_i] at this; show st.i ≤ st2.i; omega)
 ·rw [if_pos rfl] at ON
  simp only [Bool.false_eq_true, ↓reduceIte, Int.reduceEq]
  by_cases q : st2.code = 0
  ·rw [if_neg (by simpa using q)]
   have q1 : (st2.code != 0) = false := by rw [q]; rfl
   have UN2 := Lib.hid (fun W1 (h1 : PS W1 g tg c T st2) => UN.out W1 st2 h1 q (HDC.out q).1)
   generalize (fs T F).unary ((d + 1 : Nat) : Int) st2 = r2 at *
   clear q
   go_enter Try.func59, Try.ntmps59
   go_wp2_with (first
    |(go_at_call 34; with_reducible refine (place_any P0.out).mono ?_; rintro e w1 ⟨rfl, sm⟩; have P1 := Lib.hid (P0.out.sm sm); have O1 := Lib.hid (O0.out.bel (sm.below _)); have K4_1 := Lib.hid (K4_0.out.sm sm); clear sm)
    |(go_at_call 35; with_reducible refine (ON.out _ P1.out).mono ?_; rintro e w2 ⟨rfl, p, o⟩; have P2 := Lib.hid (p); have O2 := Lib.hid (O1.out.up o); have K4_2 := Lib.hid (K4_1.out.only o (by have := G4.out; omega)); clear p o)
    |(go_at_call 32; refine (DP.out _ P2.out).mono ?_; rintro e w3 ⟨rfl, p, o⟩; have P3 := Lib.hid (p); have O3 := Lib.hid (O2.out.up o); have K4_3 := Lib.hid (K4_2.out.only o (by have := G4.out; omega)); clear p o; obtain ⟨⟨d0, d1, d2, d3⟩, -⟩ := P3.out.blk.four)
    |(go_at_call 59; refine (UN2.out _ P3.out).mono ?_; rintro e w4 ⟨⟨u0, u1, u2, u3, u4, u5, u6, rfl, rd⟩, p, o, ii⟩; have P4 := Lib.hid (p); have O4 := Lib.hid (O3.out.up o); have K4_4 := Lib.hid (K4_3.out.only o (by have := G4.out; omega)); have Ry_4 := Lib.hid (wide_cells O3.out.size rd); have Iy := Lib.hid ii; have NB4 := Lib.hid (Blk.new w4 Z7 39); clear p o rd ii; have RF := Lib.hid (one_cells7 w4 (11 : Int) (place T st) Ry_4.out O4.out.size); have KF := Lib.hid (K4_4.out.below ((Below.refl _ w4).alloc (Nat.le_refl _) (.cells #[u0, u1, u2, u3, u4, u5, u6] 39)) K4_4.out.lt); have PF := Lib.hid (P4.out.alloc (.cells #[u0, u1, u2, u3, u4, u5, u6] 39)); have OF := Lib.hid (O4.out.alloc (.cells #[u0, u1, u2, u3, u4, u5, u6] 39)))
    |(refine wpList_store_row rfl 39 (.tmp 4) (.tmp 38) rfl W.heap.size #[.int .i64 11, .int .i64 (place T st), .int .i64 0, .string ⟨#[]⟩, .int .i64 0, .slice (some ⟨w4.heap.size, 0, none⟩) 1 1, .slice none 0 0] rfl rfl 39 _ KF.out sizeE rfl (ones7 (Rd.one_cells _ _ RF.out)) ?_)
    |(refine wp_store_row 39 (.tmp 4) (.tmp 38) rfl W.heap.size #[.int .i64 11, .int .i64 (place T st), .int .i64 0, .string ⟨#[]⟩, .int .i64 0, .slice (some ⟨w4.heap.size, 0, none⟩) 1 1, .slice none 0 0] rfl rfl 39 _ KF.out sizeE rfl (ones7 (Rd.one_cells _ _ RF.out)) ?_))
   refine bodyPost_ret (res7 rfl _ _ W.heap.size _ _ _ _ _ _ _ rfl (blk_row KF.out)) rfl ?_
   exact RE.end_ HG.out (Nat.le_refl _) (al_lt W (.cells Z7 39)) RF.out PF.out (B0.out.up OF.out) (by have := HDI.out; have := Iy.out; rw [up_i] at *; show st.i ≤ r2.2.i; omega)
  ·rw [if_pos (by simpa using q)]
   have q1 : (st2.code != 0) = true := by simpa using q
   have RZ := Lib.hid (fun w => leaf_cells w (Lo (W.alloc (.cells Z7 39))) 0 0 0 ⟨#[]⟩ 0)
   clear q
   go_enter Try.func59, Try.ntmps59
   go_wp2_with (first
    |(go_at_call 34; with_reducible refine (place_any P0.out).mono ?_; rintro e w1 ⟨rfl, sm⟩; have P1 := Lib.hid (P0.out.sm sm); have O1 := Lib.hid (O0.out.bel (sm.below _)); have K4_1 := Lib.hid (K4_0.out.sm sm); clear sm)
    |(go_at_call 35; with_reducible refine (ON.out _ P1.out).mono ?_; rintro e w2 ⟨rfl, p, o⟩; have P2 := Lib.hid (p); have O2 := Lib.hid (O1.out.up o); have K4_2 := Lib.hid (K4_1.out.only o (by have := G4.out; omega)); clear p o)
    |(go_at_call 32; refine (DP.out _ P2.out).mono ?_; rintro e w3 ⟨rfl, p, o⟩; have P3 := Lib.hid (p); have O3 := Lib.hid (O2.out.up o); have K4_3 := Lib.hid (K4_2.out.only o (by have := G4.out; omega)); clear p o; obtain ⟨⟨d0, d1, d2, d3⟩, -⟩ := P3.out.blk.four)
    |(refine wpList_store_row rfl 39 (.tmp 4) (.tmp 30) rfl W.heap.size Z7 rfl rfl 39 _ K4_3.out sizeE rfl (ones7 (Rd.one_cells _ _ (RZ.out w3))) ?_)
    |(refine wp_store_row 39 (.tmp 4) (.tmp 30) rfl W.heap.size Z7 rfl rfl 39 _ K4_3.out sizeE rfl (ones7 (Rd.one_cells _ _ (RZ.out w3))) ?_))
   refine bodyPost_ret (res7 rfl _ _ W.heap.size _ _ _ _ _ _ _ rfl (blk_row K4_3.out)) rfl ?_
   exact RE.end_ HG.out (Nat.le_refl _) (al_lt W (.cells Z7 39)) (RZ.out w3) P3.out (B0.out.up O3.out) (by have := HDI.out; rw [up_i] at this; show st.i ≤ st2.i; omega)
end
end Go.Proofs.Yteakhlnnepjhpaa
