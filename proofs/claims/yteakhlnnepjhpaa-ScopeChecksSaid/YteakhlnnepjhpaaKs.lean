/- The document's parser: a table (printed by genpr8.py). -/
import Derived.Test.YteakhlnnepjhpaaKk
import Derived.Test.YteakhlnnepjhpaaKl
namespace Go.Proofs.Yteakhlnnepjhpaa
open Go.RowKit PrM
set_option linter.unusedVariables false
set_option linter.unusedSimpArgs false
/-- Blocks behind the two boxes of a table. -/
def QT (W : World) : Nat → Prop := fun k => W.heap.size + 2 ≤ k
theorem blkE5 {W : World} {b : Nat} {v0 v1 v2 v3 v4 v5 v6 : Value} {t : TypeId} (h : Blk W b #[v0, v1, v2, v3, v4, v5, v6] t) (u : Value) : Blk (W.setCell ⟨b, 5, none⟩ u) b #[v0, v1, v2, v3, v4, u, v6] t := by
 have h : W.heap[b]? = _ := h
 show (W.setCell ⟨b, 5, none⟩ u).heap[b]? = _
 simp [World.setCell, Array.getElem?_modify, h]
theorem blkE0 {W : World} {b : Nat} {v0 v1 v2 v3 v4 v5 v6 : Value} {t : TypeId} (h : Blk W b #[v0, v1, v2, v3, v4, v5, v6] t) (u : Value) : Blk (W.setCell ⟨b, 0, none⟩ u) b #[u, v1, v2, v3, v4, v5, v6] t := by
 have h : W.heap[b]? = _ := h
 show (W.setCell ⟨b, 0, none⟩ u).heap[b]? = _
 simp [World.setCell, Array.getElem?_modify, h]
theorem blkE2 {W : World} {b : Nat} {v0 v1 v2 v3 v4 v5 v6 : Value} {t : TypeId} (h : Blk W b #[v0, v1, v2, v3, v4, v5, v6] t) (u : Value) : Blk (W.setCell ⟨b, 2, none⟩ u) b #[v0, v1, u, v3, v4, v5, v6] t := by
 have h : W.heap[b]? = _ := h
 show (W.setCell ⟨b, 2, none⟩ u).heap[b]? = _
 simp [World.setCell, Array.getElem?_modify, h]
/-- append of two expressions to a row of one's own (a longer row). -/
theorem wpList_append_two {w : World} {ops : Array Oper} {rest : List Oper} {o : Oper} {a : Act} {Q : Exit → Act → World → Prop} (hgd : o.guard = none) (s x : Operand)
  (ho : o.op = .call { callee := .builtin .append, args := #[s, x], argTypes := #[37, 37] })
  (base : Nat) (v : Value) (n : Nat) (ys : List Value) (hs : a.eval s = v) (hown : w.ownsRow base 39 7 v n ys)
  (b : Nat) (hx : a.eval x = .slice (some ⟨b, 0, none⟩) 2 2) (C : Array Value) (hC : C.size = 14) (hu : Blk w b C 39) (h1 : ∀ u ∈ C.toList, u.oneCell' = true) (hlen : n ≤ 300000) (hb : base ≤ w.heap.size)
  (h : ∀ v' w', w'.ownsRow base 39 7 v' (n + 2) (ys ++ C.toList) → w.grownBy w' v.ownBlock → (v'.ownBlock = v.ownBlock ∨ v'.ownBlock = some w.heap.size) → wpList Try.prog ops Q rest (a.put o.dst v') w') :
  wpList Try.prog ops Q (o :: rest) a w := by
 obtain ⟨i, hi, hz, k1, k2⟩ := info_parts infoE
 refine wpList_append_own_at w hgd s x 37 ho base 39 i _ 7 96 Try.underlying37 hi hz k1 k2 rfl (by decide) v n ys hs hown ⟨b, 0, none⟩ 2 2 C.toList hx (by simp [hC]) (fun j u hj => ?_) h1 (by unfold maxLen; omega) (by omega) hb fun v' w' g1 g2 _ g4 => h v' w' g1 g2 g4
 have e : (⟨b, 0, none⟩ : Addr).add j = ⟨b, j, none⟩ := by unfold Addr.add; split <;> simp_all
 rw [e]
 have h5 : w.heap[b]? = _ := hu
 simp only [World.cell?, h5]
 simpa using hj
theorem ones14 {v0 v1 v2 v3 v4 v5 v6 u0 u1 u2 u3 u4 u5 u6 : Value} (h : ∀ u ∈ (#[v0, v1, v2, v3, v4, v5, v6] : Array Value).toList, u.oneCell' = true) (k : ∀ u ∈ (#[u0, u1, u2, u3, u4, u5, u6] : Array Value).toList, u.oneCell' = true) : ∀ u ∈ (#[v0, v1, v2, v3, v4, v5, v6, u0, u1, u2, u3, u4, u5, u6] : Array Value).toList, u.oneCell' = true := by
 intro u hu
 simp only [List.mem_cons, List.not_mem_nil, or_false] at hu h k
 rcases hu with e | e | e | e | e | e | e | e | e | e | e | e | e | e
 all_goals (subst e; first | (refine h _ ?_; simp; done) | (refine k _ ?_; simp; done))
section
variable {F g tg c : Nat} {T : List LxM.T}
set_option maxRecDepth 20000 in
set_option maxHeartbeats 32000000 in
theorem table_any (hG : PrM.Good T) (hF : OkF g tg c T F) (W : World) (st : St) (a : Int) (d : Nat) (h : PS W g tg c T st) (hd : d ≤ 100) (hm : 100 * (101 - d) + 5 ≤ F + 1) :
  Calls Try.prog 73 #[ptr g, .int .i64 a, .int .i64 (d : Int)] W (RE W g tg c T st ((fs T (F + 1)).table a d st)) := by
 have e1 : (fs T (F + 1)).table a (d : Int) st = (fun r : X × St => (.e 8 a 0 ⟨#[]⟩ 0 r.1 .nil, PrM.take T ⟨#[125]⟩ r.2)) (tableL T ((fs T F).exp (d : Int)) T.length .nil 0 st) := rfl
 rw [e1]
 obtain ⟨R, eR⟩ : ∃ R, tableL T ((fs T F).exp (d : Int)) T.length .nil 0 st = R := ⟨_, rfl⟩
 rw [eR]
 have HR := Lib.hid eR
 have EX := Lib.hid (fun W1 st1 (h1 : PS W1 g tg c T st1) => hF.exp W1 st1 d h1 hd (by omega))
 generalize (fs T F).exp (d : Int) = ex at *
 have HG := Lib.hid h.blk.lt
 have HGG := Lib.hid hG
 have G6 := HG
 have G7 : Hid (g < W.heap.size + 1) := Lib.hid (Nat.lt_succ_of_lt HG.out)
 have GB : Hid (g < W.heap.size + 2) := Lib.hid (by have := HG.out; omega)
 have NQ : Hid (¬ QT W g) := Lib.hid (by have := HG.out; unfold QT; omega)
 have BW := Lib.hid (((Below.refl W.heap.size W).alloc (Nat.le_refl _) (.cells Z7 39)).alloc (by rw [World.size_alloc]; exact Nat.le_succ _) (.cells #[.int .i64 8, .int .i64 a, .int .i64 0, .string ⟨#[]⟩, .int .i64 0, .slice none 0 0, .slice none 0 0] 39))
 have P0 := Lib.hid ((h.alloc (.cells Z7 39)).alloc (.cells #[.int .i64 8, .int .i64 a, .int .i64 0, .string ⟨#[]⟩, .int .i64 0, .slice none 0 0, .slice none 0 0] 39))
 have O0 := Lib.hid (Only.of_below (F := fun b => b = g) BW.out)
 have K6_0 := Lib.hid (blk_al (.cells #[.int .i64 8, .int .i64 a, .int .i64 0, .string ⟨#[]⟩, .int .i64 0, .slice none 0 0, .slice none 0 0] 39) (Blk.new W Z7 39))
 have K7_0 : Hid (Blk ((W.alloc (.cells Z7 39)).alloc (.cells #[.int .i64 8, .int .i64 a, .int .i64 0, .string ⟨#[]⟩, .int .i64 0, .slice none 0 0, .slice none 0 0] 39)) (W.heap.size + 1) #[.int .i64 8, .int .i64 a, .int .i64 0, .string ⟨#[]⟩, .int .i64 0, .slice none 0 0, .slice none 0 0] 39) := Lib.hid (by have k := Blk.new (W.alloc (.cells Z7 39)) #[.int .i64 8, .int .i64 a, .int .i64 0, .string ⟨#[]⟩, .int .i64 0, .slice none 0 0, .slice none 0 0] 39; rwa [World.size_alloc] at k)
 have S0 : Hid (W.heap.size + 2 ≤ ((W.alloc (.cells Z7 39)).alloc (.cells #[.int .i64 8, .int .i64 a, .int .i64 0, .string ⟨#[]⟩, .int .i64 0, .slice none 0 0, .slice none 0 0] 39)).heap.size) := Lib.hid (by rw [World.size_alloc, World.size_alloc]; omega)
 have i0 : (0 : Int) ≤ (d : Int) := by omega
 have i1 : (d : Int) ≤ 100 := by omega
 clear hF hm e1 eR hG h hd
 go_enter Try.func73, Try.ntmps73
 go_wp2_with fail
 try simp only [Act.put]
 go_loopw [8] (fun u wr => ∃ (k : Nat) (s1 : St) (l : X) (n : Int) (vl : Value) (ys : List Value), u = .int .i64 n ∧ PS wr g tg c T s1 ∧ Only (fun b => b = g) W wr ∧ Blk wr W.heap.size Z7 39 ∧ Blk wr (W.heap.size + 1) #[.int .i64 8, .int .i64 a, .int .i64 0, .string ⟨#[]⟩, .int .i64 0, vl, .slice none 0 0] 39 ∧ OwnX 39 7 (W.heap.size + 2) (QT W) wr vl l ys ∧ W.heap.size + 2 ≤ wr.heap.size ∧ tableL T ex k l n s1 = R ∧ (s1.code = 0 → T.length ≤ k + s1.i) ∧ st.i ≤ s1.i ∧ l.len ≤ 2 * s1.i ∧ 0 ≤ n ∧ n ≤ s1.i) (fun _ wr => mB T.length g wr)
 case atStart => exact ⟨T.length, _, _, _, _, _, rfl, P0.out, O0.out, K6_0.out, K7_0.out, OwnX.nil, S0.out, HR.out, fun _ => Nat.le_add_right _ _, Nat.le_refl _, Nat.zero_le _, Int.le_refl _, Int.natCast_nonneg _⟩
 case round =>
  obtain ⟨k, s1, l, n, vl, ys, rfl, p0, ow, k6, k7, row, hbs, hM, hk, hi, hl, hn0, hn1⟩ := hrel
  obtain ⟨A, cq, rfl, -⟩ := sl_shape2 (row.reads (fun k hk => hk))
  clear P0 O0 K6_0 K7_0 S0 HR BW
  have P0 := Lib.hid p0
  have O0 := Lib.hid ow
  have K6_0 := Lib.hid k6
  have K7_0 := Lib.hid k7
  have RW0 := Lib.hid row
  have HB0 := Lib.hid hbs
  have HM := Lib.hid hM
  have HI := Lib.hid hi
  have HL := Lib.hid hl
  have HN := Lib.hid hn1
  have MB := Lib.hid (p0.mB (N := T.length))
  have HSM := Lib.hid p0.small
  obtain ⟨⟨d0, d1, d2, d3⟩, -⟩ := P0.out.blk.four
  by_cases hc : s1.code = 0
  ·rw [hc] at d2
   have hk := hk hc
   have inb := P0.out.inb
   have IS := Lib.hid (fun W1 (h1 : PS W1 g tg c T s1) => is_any h1 ⟨#[125]⟩)
   cases hb : is T ⟨#[125]⟩ s1 with
   | true =>
    rw [hb] at IS
    have ER : Hid (R = (l, s1)) := Lib.hid (by
     rw [← hM]
     cases k with
     | zero => rfl
     | succ k => unfold PrM.tableL; rw [if_neg (by rw [hb]; exact fun q => nomatch q.2)])
    clear p0 ow k6 k7 row hbs hM hk hi hl hn1 hc inb hb HM
    go_wp2_with (first
     |(go_at_call 36; (with_reducible refine (IS.out _ P0.out).mono ?_); rintro e w1 ⟨rfl, b⟩; have P1 := Lib.hid (P0.out.below b); have O1 := Lib.hid (O0.out.bel b); have K6_1 := Lib.hid (K6_0.out.below b K6_0.out.lt); have K7_1 := Lib.hid (K7_0.out.below b K7_0.out.lt); have RW1 := Lib.hid (RW0.out.below b); have HB1 := Lib.hid (Nat.le_trans HB0.out b.size); clear b)
     |(go_at_call 51; (with_reducible refine (take_any P1.out HGG.out ⟨#[125]⟩).mono ?_); rintro e w50 ⟨rfl, p, o⟩; have P2 := Lib.hid p; have O2 := Lib.hid (O1.out.up o); have K6_2 := Lib.hid (K6_1.out.only o (by have := G6.out; omega)); have K7_2 := Lib.hid (K7_1.out.only o (by have := G7.out; omega)); have RW2 := Lib.hid (RW1.out.at_g o GB.out NQ.out); have HB2 := Lib.hid (Nat.le_trans HB1.out o.size); clear p o; have P50 := P2; have O50 := O2; have K6_50 := K6_2; have K7_50 := K7_2; have RW50 := RW2; have HB50 := HB2; obtain ⟨⟨a0, a1, a2, a3, a4, a5, a6⟩, -⟩ := K7_50.out.seven)
     |(refine wpList_store_row rfl 39 (.tmp 6) (.tmp 122) rfl W.heap.size #[.int .i64 8, .int .i64 a, .int .i64 0, .string ⟨#[]⟩, .int .i64 0, .slice A l.len cq, .slice none 0 0] rfl rfl 39 _ K6_50.out sizeE rfl (by simp [Value.oneCell']) ?_)
     |(refine wp_store_row 39 (.tmp 6) (.tmp 122) rfl W.heap.size #[.int .i64 8, .int .i64 a, .int .i64 0, .string ⟨#[]⟩, .int .i64 0, .slice A l.len cq, .slice none 0 0] rfl rfl 39 _ K6_50.out sizeE rfl (by simp [Value.oneCell']) ?_))
    try simp only [Exit.inBlock, Exit.then]
    refine bodyPost_ret (res7 rfl _ _ W.heap.size _ _ _ _ _ _ _ rfl (blk_row K6_50.out)) rfl ?_
    have er := ER.out
    rw [er]
    have oo := only_row w50 W.heap.size #[.int .i64 8, .int .i64 a, .int .i64 0, .string ⟨#[]⟩, .int .i64 0, .slice A l.len cq, .slice none 0 0]
    exact ⟨⟨_, _, _, _, _, _, _, rfl, _, _, rfl, (RW50.out.reads (fun k hk => hk)).imp (Rd.move (Moves.of_only oo (fun k hk _ e => by have hk : W.heap.size + 2 ≤ k := hk; omega) (fun k hk _ => by have hk : W.heap.size + 2 ≤ k := hk; show W.heap.size ≤ k; omega)) _).2.1, sl_nil _ _ _⟩, P50.out.only oo (fun i e => .inl (by have := G6.out; omega)), O50.out.row W.heap.size (.inr (Nat.le_refl _)) _, Nat.le_trans HI.out (take_i2 _ _)⟩
   | false =>
    rw [hb] at IS
    obtain ⟨k, rfl⟩ : ∃ q, k = q + 1 := ⟨k - 1, by omega⟩
    have EM := hM
    unfold PrM.tableL at EM
    rw [if_pos ⟨hc, hb⟩] at EM
    have HK := Lib.hid hk
    have HC := Lib.hid hc
    have l1 : (0 : Int) ≤ (l.len : Int) := by omega
    have l2 : (l.len : Int) ≤ 200000 := by have := P0.out.small; omega
    have n2 : n ≤ 100000 := by have := P0.out.small; omega
    have FU := Lib.hid (fun W1 (h1 : PS W1 g tg c T s1) => full_any h1 ((l.len / 2 : Nat) : Int) 64)
    have HF := Lib.hid (full_i (T := T) ((l.len / 2 : Nat) : Int) 64 s1)
    generalize full T ((l.len / 2 : Nat) : Int) 64 s1 = sf at *
    dsimp only at EM
    have EM := Lib.hid EM
    clear p0 ow k6 k7 row hbs hM hk hi hl hn1 hc inb hb HM
    have NQE : Hid (¬ (QT W g ∧ (Value.slice A l.len cq).ownBlock ≠ some g)) := Lib.hid (fun q => NQ.out q.1)
    have EM := EM.out
    by_cases hs : sf.code = 0
    ·rw [if_neg (show ¬ (sf.code ≠ 0) from fun q => q hs)] at EM
     have hsc := hs
     have HSC := Lib.hid hsc
     have OB := Lib.hid (fun W1 (h1 : PS W1 g tg c T sf) => opt_any h1 HGG.out ⟨#[91]⟩)
     unfold PrM.opt at OB
     cases hb : is T ⟨#[91]⟩ sf with
     | true =>
      rw [hb, if_pos rfl] at OB EM
      clear hb hs hsc
      have EXK := Lib.hid (fun W1 (h1 : PS W1 g tg c T (up sf)) => EX.out W1 _ h1)
      generalize ex (up sf) = rk at *
      dsimp only at EM
      have T1 := Lib.hid (fun W1 (h1 : PS W1 g tg c T rk.2) => take_any h1 HGG.out ⟨#[93]⟩)
      have T2 := Lib.hid (fun W1 (h1 : PS W1 g tg c T (PrM.take T ⟨#[93]⟩ rk.2)) => take_any h1 HGG.out ⟨#[61]⟩)
      obtain ⟨rv, erv⟩ : ∃ rv, ex (PrM.take T ⟨#[61]⟩ (PrM.take T ⟨#[93]⟩ rk.2)) = rv := ⟨_, rfl⟩
      have EXV := Lib.hid (fun W1 (h1 : PS W1 g tg c T (PrM.take T ⟨#[61]⟩ (PrM.take T ⟨#[93]⟩ rk.2))) => EX.out W1 _ h1)
      rw [erv] at EXV EM
      clear erv
      have OC := Lib.hid (fun W1 (h1 : PS W1 g tg c T rv.2) => opt_any h1 HGG.out ⟨#[44]⟩)
      have OS := Lib.hid (fun W1 (h1 : PS W1 g tg c T rv.2) => opt_any h1 HGG.out ⟨#[59]⟩)
      unfold PrM.opt at OC OS
      have EM := Lib.hid EM
      go_wp2_with (first
       |(go_at_call 36; (with_reducible refine (IS.out _ P0.out).mono ?_); rintro e w1 ⟨rfl, b⟩; have P1 := Lib.hid (P0.out.below b); have O1 := Lib.hid (O0.out.bel b); have K6_1 := Lib.hid (K6_0.out.below b K6_0.out.lt); have K7_1 := Lib.hid (K7_0.out.below b K7_0.out.lt); have RW1 := Lib.hid (RW0.out.below b); have HB1 := Lib.hid (Nat.le_trans HB0.out b.size); clear b; obtain ⟨⟨e0, e1, e2, e3, e4, e5, e6⟩, -⟩ := K7_1.out.seven)
       |(go_at_call 60; refine (FU.out _ P1.out).mono ?_; rintro e w2 ⟨rfl, p, o⟩; have P2 := Lib.hid p; have O2 := Lib.hid (O1.out.up o); have K6_2 := Lib.hid (K6_1.out.only o (by have := G6.out; omega)); have K7_2 := Lib.hid (K7_1.out.only o (by have := G7.out; omega)); have RW2 := Lib.hid (RW1.out.at_g o GB.out NQ.out); have HB2 := Lib.hid (Nat.le_trans HB1.out o.size); clear p o e0 e1 e2 e3 e4 e5 e6)
       |(go_at_call 34; (with_reducible refine (place_any P2.out).mono ?_); rintro e w3 ⟨rfl, sm⟩; have P3 := Lib.hid (P2.out.sm sm); have O3 := Lib.hid (O2.out.bel (sm.below _)); have K6_3 := Lib.hid (K6_2.out.below (sm.below _) K6_2.out.lt); have K7_3 := Lib.hid (K7_2.out.below (sm.below _) K7_2.out.lt); have RW3 := Lib.hid (RW2.out.below (sm.below _)); have HB3 := Lib.hid (Nat.le_trans HB2.out (sm.below 0).size); clear sm; have P4 := Lib.hid (P3.out.alloc (.cells #[.int .i64 0, .int .i64 (place T sf), .int .i64 0, .string ⟨#[]⟩, .int .i64 1, .slice none 0 0, .slice none 0 0] 39)); have O4 := Lib.hid (O3.out.alloc (.cells #[.int .i64 0, .int .i64 (place T sf), .int .i64 0, .string ⟨#[]⟩, .int .i64 1, .slice none 0 0, .slice none 0 0] 39)); have K6_4 := Lib.hid (blk_al (.cells #[.int .i64 0, .int .i64 (place T sf), .int .i64 0, .string ⟨#[]⟩, .int .i64 1, .slice none 0 0, .slice none 0 0] 39) K6_3.out); have K7_4 := Lib.hid (blk_al (.cells #[.int .i64 0, .int .i64 (place T sf), .int .i64 0, .string ⟨#[]⟩, .int .i64 1, .slice none 0 0, .slice none 0 0] 39) K7_3.out); have RW4 := Lib.hid (RW3.out.alloc (.cells #[.int .i64 0, .int .i64 (place T sf), .int .i64 0, .string ⟨#[]⟩, .int .i64 1, .slice none 0 0, .slice none 0 0] 39)); have KB4 := Lib.hid (Blk.new w3 #[.int .i64 0, .int .i64 (place T sf), .int .i64 0, .string ⟨#[]⟩, .int .i64 1, .slice none 0 0, .slice none 0 0] 39); have HB4 := Lib.hid (Nat.le_trans HB3.out (Nat.le_of_lt (al_lt w3 (.cells #[.int .i64 0, .int .i64 (place T sf), .int .i64 0, .string ⟨#[]⟩, .int .i64 1, .slice none 0 0, .slice none 0 0] 39)))); have ZO4 := Lib.hid ((Only.refl (fun b => b = g) w3).alloc (.cells #[.int .i64 0, .int .i64 (place T sf), .int .i64 0, .string ⟨#[]⟩, .int .i64 1, .slice none 0 0, .slice none 0 0] 39)); obtain ⟨⟨d0, d1, d2, d3⟩, -⟩ := P4.out.blk.four; rw [HSC.out] at d2)
       |(go_at_call 35; (with_reducible refine (OB.out _ P4.out).mono ?_); rintro e w5 ⟨rfl, p, o⟩; have P5 := Lib.hid p; have O5 := Lib.hid (O4.out.up o); have K6_5 := Lib.hid (K6_4.out.only o (by have := G6.out; omega)); have K7_5 := Lib.hid (K7_4.out.only o (by have := G7.out; omega)); have RW5 := Lib.hid (RW4.out.at_g o GB.out NQ.out); have HB5 := Lib.hid (Nat.le_trans HB4.out o.size); have ZO5 := Lib.hid (ZO4.out.up o); have KB5 := Lib.hid (KB4.out.only o (by have := HB3.out; have := GB.out; omega)); clear p o d0 d1 d2 d3)
       |(go_at_call 37; (with_reducible refine (EXK.out _ P5.out).mono ?_); rintro e w6 ⟨⟨k0, k1, k2, k3, k4, k5, k6, rfl, rd⟩, p, o, ii⟩; have P6 := Lib.hid p; have O6 := Lib.hid (O5.out.up o); have K6_6 := Lib.hid (K6_5.out.only o (by have := G6.out; omega)); have K7_6 := Lib.hid (K7_5.out.only o (by have := G7.out; omega)); have RW6 := Lib.hid (RW5.out.at_g o GB.out NQ.out); have HB6 := Lib.hid (Nat.le_trans HB5.out o.size); have ZO6 := Lib.hid (ZO5.out.up o); have KB6 := Lib.hid (KB5.out.only o (by have := HB3.out; have := GB.out; omega)); have RDK := Lib.hid rd; have IK := Lib.hid ii; clear p o rd ii)
       |(refine wpList_store_row rfl 39 (.tmp 9) (.tmp 48) rfl w3.heap.size #[k0, k1, k2, k3, k4, k5, k6] rfl rfl 39 _ KB6.out sizeE rfl (ones7 (Rd.one_cells _ _ RDK.out)) ?_; obtain ⟨w7, hw, KB7, OZ⟩ := row7 (cs := #[k0, k1, k2, k3, k4, k5, k6]) KB6.out; rw [← hw]; clear hw; have P7 := Lib.hid (P6.out.only OZ.out (fun i e => .inl (by have := HB3.out; have := GB.out; omega))); have O7 := Lib.hid (O6.out.trans OZ.out (fun n e => .inr (by have := HB3.out; omega))); have K6_7 := Lib.hid (K6_6.out.only OZ.out (by have := HB3.out; omega)); have K7_7 := Lib.hid (K7_6.out.only OZ.out (by have := HB3.out; omega)); have ZO7 := Lib.hid (ZO6.out.trans OZ.out (fun n e => .inr (Nat.le_of_eq e.symm))); have RW7 := Lib.hid (RW3.out.at_g ZO7.out GB.out NQ.out); have HB7 := Lib.hid (Nat.le_trans HB6.out OZ.out.size); have L5 := Lib.hid KB5.out.lt; have Rk_7 := Lib.hid (OwnX.elem (w := w7) RW5.out (fun k hk => Nat.le_trans HB5.out hk) ((Rd.move (Moves.of_only OZ.out (fun k hk _ e => by have := L5.out; unfold Lo at hk; omega) (fun k hk _ => hk)) _).1 _ RDK.out)); try simp only [Act.put])
       |(go_at_call 51; (with_reducible refine (T1.out _ P7.out).mono ?_); rintro e w8 ⟨rfl, p, o⟩; have P8 := Lib.hid p; have O8 := Lib.hid (O7.out.up o); have K6_8 := Lib.hid (K6_7.out.only o (by have := G6.out; omega)); have K7_8 := Lib.hid (K7_7.out.only o (by have := G7.out; omega)); have RW8 := Lib.hid (RW7.out.at_g o GB.out NQ.out); have HB8 := Lib.hid (Nat.le_trans HB7.out o.size); have ZO8 := Lib.hid (ZO7.out.up o); have KB8 := Lib.hid (KB7.out.only o (by have := HB3.out; have := GB.out; omega)); have Rk_8 := Lib.hid (mvQ NQE.out o Rk_7.out); clear p o)
       |(go_at_call 51; (with_reducible refine (T2.out _ P8.out).mono ?_); rintro e w9 ⟨rfl, p, o⟩; have P9 := Lib.hid p; have O9 := Lib.hid (O8.out.up o); have K6_9 := Lib.hid (K6_8.out.only o (by have := G6.out; omega)); have K7_9 := Lib.hid (K7_8.out.only o (by have := G7.out; omega)); have RW9 := Lib.hid (RW8.out.at_g o GB.out NQ.out); have HB9 := Lib.hid (Nat.le_trans HB8.out o.size); have ZO9 := Lib.hid (ZO8.out.up o); have KB9 := Lib.hid (KB8.out.only o (by have := HB3.out; have := GB.out; omega)); have Rk_9 := Lib.hid (mvQ NQE.out o Rk_8.out); clear p o; have P20 := P9; have O20 := O9; have K6_20 := K6_9; have K7_20 := K7_9; have RW20 := RW9; have HB20 := HB9; have KB20 := KB9; have Rk_20 := Rk_9)
       |(go_at_call 37; (with_reducible refine (EXV.out _ P20.out).mono ?_); rintro e w21 ⟨⟨u0, u1, u2, u3, u4, u5, u6, rfl, rd⟩, p, o, ii⟩; have P21 := Lib.hid p; have O21 := Lib.hid (O20.out.up o); have K6_21 := Lib.hid (K6_20.out.only o (by have := G6.out; omega)); have K7_21 := Lib.hid (K7_20.out.only o (by have := G7.out; omega)); have RW21 := Lib.hid (RW20.out.at_g o GB.out NQ.out); have HB21 := Lib.hid (Nat.le_trans HB20.out o.size); have KB21 := Lib.hid (KB20.out.only o (by have := HB3.out; have := GB.out; omega)); have Rk_21 := Lib.hid (mvQ NQE.out o Rk_20.out); have RV_21 := Lib.hid (OwnX.elem (w := w21) RW20.out (fun k hk => Nat.le_trans HB20.out hk) rd); have IV := Lib.hid ii; have NB := Lib.hid (Blk.new w21 Z7 39); clear p o rd ii)
       |(refine wpList_store_row rfl 39 (.tmp 10) (.tmp 104) rfl w21.heap.size #[u0, u1, u2, u3, u4, u5, u6] rfl rfl 39 _ NB.out sizeE rfl (ones7 (Rd.one_cells _ _ RV_21.out)) ?_; obtain ⟨w22, hw, bb, K10, ss⟩ := box7 w21 #[u0, u1, u2, u3, u4, u5, u6] Z7; rw [← hw]; clear hw NB; have P22 := Lib.hid (P21.out.only (Only.of_below (F := fun _ => False) bb.out) (fun _ f => f.elim)); have O22 := Lib.hid (O21.out.bel bb.out); have K6_22 := Lib.hid (K6_21.out.below bb.out K6_21.out.lt); have K7_22 := Lib.hid (K7_21.out.below bb.out K7_21.out.lt); have KB22 := Lib.hid (KB21.out.below bb.out KB21.out.lt); have RW22 := Lib.hid (RW21.out.below bb.out); have Rk_22 := Lib.hid (mv_below bb.out Rk_21.out); have RV_22 := Lib.hid (mv_below bb.out RV_21.out); have HB22 := Lib.hid (Nat.le_trans HB21.out bb.out.size); obtain ⟨⟨e0, e1, e2, e3, e4, e5, e6⟩, -⟩ := K7_22.out.seven; obtain ⟨⟨b0, b1, b2, b3, b4, b5, b6⟩, -⟩ := KB22.out.seven; obtain ⟨⟨c0, c1, c2, c3, c4, c5, c6⟩, -⟩ := K10.out.seven; have ZA := Lib.hid (RW22.out.alloc (.cells #[k0, k1, k2, k3, k4, k5, k6, u0, u1, u2, u3, u4, u5, u6] 39)).row; have KN := Lib.hid (Blk.new w22 #[k0, k1, k2, k3, k4, k5, k6, u0, u1, u2, u3, u4, u5, u6] 39); have SZ := Lib.hid (show W.heap.size + 2 ≤ (w22.alloc (.cells #[k0, k1, k2, k3, k4, k5, k6, u0, u1, u2, u3, u4, u5, u6] 39)).heap.size from Nat.le_trans HB22.out (Nat.le_of_lt (al_lt w22 _))); clear bb ss)
       |(at_builtin; refine wpList_append_two rfl (.tmp 106) (.tmp 109) rfl (W.heap.size + 2) (.slice A l.len cq) l.len ys ?_ ?_ w22.heap.size ?_ #[k0, k1, k2, k3, k4, k5, k6, u0, u1, u2, u3, u4, u5, u6] rfl ?_ ?_ ?_ ?_ ?_; rfl; exact ZA.out; rfl; exact KN.out; exact ones14 (Rd.one_cells _ _ Rk_22.out) (Rd.one_cells _ _ RV_22.out); omega; exact SZ.out; intro v6 w23 own6 g6 l6; have RW23 := Lib.hid (OwnX.pushed2 RW22.out Rk_22.out rfl RV_22.out rfl own6 g6 l6); have OG := Lib.hid (grown_only g6); have P23 := Lib.hid ((P22.out.alloc (.cells #[k0, k1, k2, k3, k4, k5, k6, u0, u1, u2, u3, u4, u5, u6] 39)).only OG.out (fun i e => .inl (Nat.lt_of_lt_of_le GB.out (RW22.out.row.lt i e).1))); have O23 := Lib.hid ((O22.out.alloc (.cells #[k0, k1, k2, k3, k4, k5, k6, u0, u1, u2, u3, u4, u5, u6] 39)).trans OG.out (fun i e => .inr (Nat.le_trans (Nat.le_add_right _ 2) (RW22.out.row.lt i e).1))); have K6_23 := Lib.hid ((blk_al (.cells #[k0, k1, k2, k3, k4, k5, k6, u0, u1, u2, u3, u4, u5, u6] 39) K6_22.out).only OG.out (fun e => by have := (RW22.out.row.lt _ e).1; omega)); have K7_23 := Lib.hid ((blk_al (.cells #[k0, k1, k2, k3, k4, k5, k6, u0, u1, u2, u3, u4, u5, u6] 39) K7_22.out).only OG.out (fun e => by have := (RW22.out.row.lt _ e).1; omega)); have HB23 := Lib.hid (Nat.le_trans SZ.out OG.out.size); clear own6 g6 l6 e0 e1 e2 e3 e4 e5 e6 b0 b1 b2 b3 b4 b5 b6 c0 c1 c2 c3 c4 c5 c6; obtain ⟨A6, c6, rfl, -⟩ := sl_shape2 (RW23.out.reads (fun k hk => hk)); obtain ⟨⟨e0, e1, e2, e3, e4, e5, e6⟩, f0, f1, f2, f3, f4, f5, f6⟩ := K7_23.out.seven; have ob := only_cell w23 (W.heap.size + 1) 5 (.slice A6 ((l.snoc (rk.1)).snoc rv.1).len c6); have P24 := Lib.hid (P23.out.only ob (fun i e => .inl (by have := G7.out; omega))); have O24 := Lib.hid (O23.out.setCell (p := ⟨W.heap.size + 1, 5, none⟩) (.inr (Nat.le_succ _)) (.slice A6 ((l.snoc (rk.1)).snoc rv.1).len c6)); have K6_24 := Lib.hid (K6_23.out.only ob (by omega)); have K7_24 := Lib.hid (blkE5 K7_23.out (.slice A6 ((l.snoc (rk.1)).snoc rv.1).len c6)); have RW24 := Lib.hid (RW23.out.only ob (fun k e => ⟨by omega, by unfold QT; omega⟩)); have HB24 := Lib.hid (Nat.le_trans HB23.out ob.size); clear ob))
      have EM := EM.out
      cases h44 : is T ⟨#[44]⟩ rv.2 with
      | true =>
       rw [h44, if_pos rfl] at OC EM
       have EM := Lib.hid EM
       clear h44 OS
       go_wp2_with (first
        |(go_at_call 35; (with_reducible refine (OC.out _ P24.out).mono ?_); rintro e w25 ⟨rfl, p, o⟩; have P25 := Lib.hid p; have O25 := Lib.hid (O24.out.up o); have K6_25 := Lib.hid (K6_24.out.only o (by have := G6.out; omega)); have K7_25 := Lib.hid (K7_24.out.only o (by have := G7.out; omega)); have RW25 := Lib.hid (RW24.out.at_g o GB.out NQ.out); have HB25 := Lib.hid (Nat.le_trans HB24.out o.size); clear p o))
       refine ⟨⟨k, up rv.2, ((l.snoc (rk.1)).snoc rv.1), n, _, _, rfl, P25.out, O25.out, K6_25.out, K7_25.out, RW25.out, HB25.out, EM.out, ?_, ?_, ?_, ?_, ?_⟩, ?_⟩
       ·intro _; have h1 := HK.out; have h2 := IV.out; have h3 := HF.out; have h4 := HI.out; have h5 := HL.out; have h6 := HN.out; have h7 : (up rv.2).i = rv.2.i + 1 := rfl; have h9 := IK.out; rw [up_i] at h9; have ha := take_i2 (T := T) ⟨#[93]⟩ rk.2; have hb := take_i2 (T := T) ⟨#[61]⟩ (PrM.take T ⟨#[93]⟩ rk.2); omega
       ·have h1 := HK.out; have h2 := IV.out; have h3 := HF.out; have h4 := HI.out; have h5 := HL.out; have h6 := HN.out; have h7 : (up rv.2).i = rv.2.i + 1 := rfl; have h9 := IK.out; rw [up_i] at h9; have ha := take_i2 (T := T) ⟨#[93]⟩ rk.2; have hb := take_i2 (T := T) ⟨#[61]⟩ (PrM.take T ⟨#[93]⟩ rk.2); omega
       ·rw [X.len_snoc, X.len_snoc]; have h1 := HK.out; have h2 := IV.out; have h3 := HF.out; have h4 := HI.out; have h5 := HL.out; have h6 := HN.out; have h7 : (up rv.2).i = rv.2.i + 1 := rfl; have h9 := IK.out; rw [up_i] at h9; have ha := take_i2 (T := T) ⟨#[93]⟩ rk.2; have hb := take_i2 (T := T) ⟨#[61]⟩ (PrM.take T ⟨#[93]⟩ rk.2); omega
       ·omega
       ·have h1 := HK.out; have h2 := IV.out; have h3 := HF.out; have h4 := HI.out; have h5 := HL.out; have h6 := HN.out; have h7 : (up rv.2).i = rv.2.i + 1 := rfl; have h9 := IK.out; rw [up_i] at h9; have ha := take_i2 (T := T) ⟨#[93]⟩ rk.2; have hb := take_i2 (T := T) ⟨#[61]⟩ (PrM.take T ⟨#[93]⟩ rk.2); omega
       ·rw [P25.out.mB, MB.out, if_pos HC.out]
        have h1 := HK.out; have h2 := IV.out; have h3 := HF.out; have h4 := HI.out; have h5 := HL.out; have h6 := HN.out; have h7 : (up rv.2).i = rv.2.i + 1 := rfl; have h9 := IK.out; rw [up_i] at h9; have ha := take_i2 (T := T) ⟨#[93]⟩ rk.2; have hb := take_i2 (T := T) ⟨#[61]⟩ (PrM.take T ⟨#[93]⟩ rk.2)
        have := P0.out.inb
        split <;> omega
      | false =>
       rw [h44, if_neg (by decide)] at OC EM
       cases h59 : is T ⟨#[59]⟩ rv.2 with
       | true =>
        rw [h59, if_pos rfl] at OS EM
        have EM := Lib.hid EM
        clear h44 h59
        go_wp2_with (first
         |(go_at_call 35; (with_reducible refine (OC.out _ P24.out).mono ?_); rintro e w25 ⟨rfl, p, o⟩; have P25 := Lib.hid p; have O25 := Lib.hid (O24.out.up o); have K6_25 := Lib.hid (K6_24.out.only o (by have := G6.out; omega)); have K7_25 := Lib.hid (K7_24.out.only o (by have := G7.out; omega)); have RW25 := Lib.hid (RW24.out.at_g o GB.out NQ.out); have HB25 := Lib.hid (Nat.le_trans HB24.out o.size); clear p o)
         |(go_at_call 35; (with_reducible refine (OS.out _ P25.out).mono ?_); rintro e w26 ⟨rfl, p, o⟩; have P26 := Lib.hid p; have O26 := Lib.hid (O25.out.up o); have K6_26 := Lib.hid (K6_25.out.only o (by have := G6.out; omega)); have K7_26 := Lib.hid (K7_25.out.only o (by have := G7.out; omega)); have RW26 := Lib.hid (RW25.out.at_g o GB.out NQ.out); have HB26 := Lib.hid (Nat.le_trans HB25.out o.size); clear p o))
        refine ⟨⟨k, up rv.2, ((l.snoc (rk.1)).snoc rv.1), n, _, _, rfl, P26.out, O26.out, K6_26.out, K7_26.out, RW26.out, HB26.out, EM.out, ?_, ?_, ?_, ?_, ?_⟩, ?_⟩
        ·intro _; have h1 := HK.out; have h2 := IV.out; have h3 := HF.out; have h4 := HI.out; have h5 := HL.out; have h6 := HN.out; have h7 : (up rv.2).i = rv.2.i + 1 := rfl; have h9 := IK.out; rw [up_i] at h9; have ha := take_i2 (T := T) ⟨#[93]⟩ rk.2; have hb := take_i2 (T := T) ⟨#[61]⟩ (PrM.take T ⟨#[93]⟩ rk.2); omega
        ·have h1 := HK.out; have h2 := IV.out; have h3 := HF.out; have h4 := HI.out; have h5 := HL.out; have h6 := HN.out; have h7 : (up rv.2).i = rv.2.i + 1 := rfl; have h9 := IK.out; rw [up_i] at h9; have ha := take_i2 (T := T) ⟨#[93]⟩ rk.2; have hb := take_i2 (T := T) ⟨#[61]⟩ (PrM.take T ⟨#[93]⟩ rk.2); omega
        ·rw [X.len_snoc, X.len_snoc]; have h1 := HK.out; have h2 := IV.out; have h3 := HF.out; have h4 := HI.out; have h5 := HL.out; have h6 := HN.out; have h7 : (up rv.2).i = rv.2.i + 1 := rfl; have h9 := IK.out; rw [up_i] at h9; have ha := take_i2 (T := T) ⟨#[93]⟩ rk.2; have hb := take_i2 (T := T) ⟨#[61]⟩ (PrM.take T ⟨#[93]⟩ rk.2); omega
        ·omega
        ·have h1 := HK.out; have h2 := IV.out; have h3 := HF.out; have h4 := HI.out; have h5 := HL.out; have h6 := HN.out; have h7 : (up rv.2).i = rv.2.i + 1 := rfl; have h9 := IK.out; rw [up_i] at h9; have ha := take_i2 (T := T) ⟨#[93]⟩ rk.2; have hb := take_i2 (T := T) ⟨#[61]⟩ (PrM.take T ⟨#[93]⟩ rk.2); omega
        ·rw [P26.out.mB, MB.out, if_pos HC.out]
         have h1 := HK.out; have h2 := IV.out; have h3 := HF.out; have h4 := HI.out; have h5 := HL.out; have h6 := HN.out; have h7 : (up rv.2).i = rv.2.i + 1 := rfl; have h9 := IK.out; rw [up_i] at h9; have ha := take_i2 (T := T) ⟨#[93]⟩ rk.2; have hb := take_i2 (T := T) ⟨#[61]⟩ (PrM.take T ⟨#[93]⟩ rk.2)
         have := P0.out.inb
         split <;> omega
       | false =>
        rw [h59, if_neg (by decide)] at OS EM
        have ER := Lib.hid EM.symm
        clear h44 h59 EM
        go_wp2_with (first
         |(go_at_call 35; (with_reducible refine (OC.out _ P24.out).mono ?_); rintro e w25 ⟨rfl, p, o⟩; have P25 := Lib.hid p; have O25 := Lib.hid (O24.out.up o); have K6_25 := Lib.hid (K6_24.out.only o (by have := G6.out; omega)); have K7_25 := Lib.hid (K7_24.out.only o (by have := G7.out; omega)); have RW25 := Lib.hid (RW24.out.at_g o GB.out NQ.out); have HB25 := Lib.hid (Nat.le_trans HB24.out o.size); clear p o)
         |(go_at_call 35; (with_reducible refine (OS.out _ P25.out).mono ?_); rintro e w26 ⟨rfl, p, o⟩; have P26 := Lib.hid p; have O26 := Lib.hid (O25.out.up o); have K6_26 := Lib.hid (K6_25.out.only o (by have := G6.out; omega)); have K7_26 := Lib.hid (K7_25.out.only o (by have := G7.out; omega)); have RW26 := Lib.hid (RW25.out.at_g o GB.out NQ.out); have HB26 := Lib.hid (Nat.le_trans HB25.out o.size); clear p o)
         |(go_at_call 51; (with_reducible refine (take_any P26.out HGG.out ⟨#[125]⟩).mono ?_); rintro e w50 ⟨rfl, p, o⟩; have P27 := Lib.hid p; have O27 := Lib.hid (O26.out.up o); have K6_27 := Lib.hid (K6_26.out.only o (by have := G6.out; omega)); have K7_27 := Lib.hid (K7_26.out.only o (by have := G7.out; omega)); have RW27 := Lib.hid (RW26.out.at_g o GB.out NQ.out); have HB27 := Lib.hid (Nat.le_trans HB26.out o.size); clear p o; have P50 := P27; have O50 := O27; have K6_50 := K6_27; have K7_50 := K7_27; have RW50 := RW27; have HB50 := HB27; obtain ⟨⟨a0, a1, a2, a3, a4, a5, a6⟩, -⟩ := K7_50.out.seven)
         |(refine wpList_store_row rfl 39 (.tmp 6) (.tmp 122) rfl W.heap.size #[.int .i64 8, .int .i64 a, .int .i64 0, .string ⟨#[]⟩, .int .i64 0, .slice A6 ((l.snoc (rk.1)).snoc rv.1).len c6, .slice none 0 0] rfl rfl 39 _ K6_50.out sizeE rfl (by simp [Value.oneCell']) ?_)
         |(refine wp_store_row 39 (.tmp 6) (.tmp 122) rfl W.heap.size #[.int .i64 8, .int .i64 a, .int .i64 0, .string ⟨#[]⟩, .int .i64 0, .slice A6 ((l.snoc (rk.1)).snoc rv.1).len c6, .slice none 0 0] rfl rfl 39 _ K6_50.out sizeE rfl (by simp [Value.oneCell']) ?_))
        try simp only [Exit.inBlock, Exit.then]
        refine bodyPost_ret (res7 rfl _ _ W.heap.size _ _ _ _ _ _ _ rfl (blk_row K6_50.out)) rfl ?_
        have er := ER.out
        rw [er]
        have oo := only_row w50 W.heap.size #[.int .i64 8, .int .i64 a, .int .i64 0, .string ⟨#[]⟩, .int .i64 0, .slice A6 ((l.snoc (rk.1)).snoc rv.1).len c6, .slice none 0 0]
        exact ⟨⟨_, _, _, _, _, _, _, rfl, _, _, rfl, (RW50.out.reads (fun k hk => hk)).imp (Rd.move (Moves.of_only oo (fun k hk _ e => by have hk : W.heap.size + 2 ≤ k := hk; omega) (fun k hk _ => by have hk : W.heap.size + 2 ≤ k := hk; show W.heap.size ≤ k; omega)) _).2.1, sl_nil _ _ _⟩, P50.out.only oo (fun i e => .inl (by have := G6.out; omega)), O50.out.row W.heap.size (.inr (Nat.le_refl _)) _, (by have h1 := HK.out; have h2 := IV.out; have h3 := HF.out; have h4 := HI.out; have h5 := HL.out; have h6 := HN.out; have h7 : (up rv.2).i = rv.2.i + 1 := rfl; have h9 := IK.out; rw [up_i] at h9; have ha := take_i2 (T := T) ⟨#[93]⟩ rk.2; have hb := take_i2 (T := T) ⟨#[61]⟩ (PrM.take T ⟨#[93]⟩ rk.2); have h8 := take_i2 (T := T) ⟨#[125]⟩ rv.2; exact Nat.le_trans (show st.i ≤ rv.2.i by omega) h8)⟩
     | false =>
      rw [hb, if_neg (show ¬ (false = true) from nofun)] at OB EM
      clear hb
      by_cases h13 : (PrM.tk T sf).kind = 2 ∧ (PrM.tk T (up sf)).kind = 5 ∧ (PrM.tk T (up sf)).text = [61]
      ·rw [if_pos h13] at EM
       have NA := Lib.hid (fun W1 (h1 : PS W1 g tg c T sf) => name_any h1 HGG.out)
       have HNI := Lib.hid (name_i (T := T) sf)
       generalize nameT T sf = nm at *
       generalize nameS T sf = sn at *
       dsimp only at EM
       have TQ := Lib.hid (fun W1 (h1 : PS W1 g tg c T sn) => take_any h1 HGG.out ⟨#[61]⟩)
       have HB13 : Hid (true = decide ((PrM.tk T sf).kind = 2 ∧ (PrM.tk T (up sf)).kind = 5 ∧ (PrM.tk T (up sf)).text = [61])) := Lib.hid (decide_eq_true h13).symm
       clear h13 hs hsc
       have EMH := Lib.hid EM
       clear EM
       go_wp2_with (first
        |(go_at_call 36; (with_reducible refine (IS.out _ P0.out).mono ?_); rintro e w1 ⟨rfl, b⟩; have P1 := Lib.hid (P0.out.below b); have O1 := Lib.hid (O0.out.bel b); have K6_1 := Lib.hid (K6_0.out.below b K6_0.out.lt); have K7_1 := Lib.hid (K7_0.out.below b K7_0.out.lt); have RW1 := Lib.hid (RW0.out.below b); have HB1 := Lib.hid (Nat.le_trans HB0.out b.size); clear b; obtain ⟨⟨e0, e1, e2, e3, e4, e5, e6⟩, -⟩ := K7_1.out.seven)
        |(go_at_call 60; refine (FU.out _ P1.out).mono ?_; rintro e w2 ⟨rfl, p, o⟩; have P2 := Lib.hid p; have O2 := Lib.hid (O1.out.up o); have K6_2 := Lib.hid (K6_1.out.only o (by have := G6.out; omega)); have K7_2 := Lib.hid (K7_1.out.only o (by have := G7.out; omega)); have RW2 := Lib.hid (RW1.out.at_g o GB.out NQ.out); have HB2 := Lib.hid (Nat.le_trans HB1.out o.size); clear p o e0 e1 e2 e3 e4 e5 e6)
        |(go_at_call 34; (with_reducible refine (place_any P2.out).mono ?_); rintro e w3 ⟨rfl, sm⟩; have P3 := Lib.hid (P2.out.sm sm); have O3 := Lib.hid (O2.out.bel (sm.below _)); have K6_3 := Lib.hid (K6_2.out.below (sm.below _) K6_2.out.lt); have K7_3 := Lib.hid (K7_2.out.below (sm.below _) K7_2.out.lt); have RW3 := Lib.hid (RW2.out.below (sm.below _)); have HB3 := Lib.hid (Nat.le_trans HB2.out (sm.below 0).size); clear sm; have P4 := Lib.hid (P3.out.alloc (.cells #[.int .i64 0, .int .i64 (place T sf), .int .i64 0, .string ⟨#[]⟩, .int .i64 1, .slice none 0 0, .slice none 0 0] 39)); have O4 := Lib.hid (O3.out.alloc (.cells #[.int .i64 0, .int .i64 (place T sf), .int .i64 0, .string ⟨#[]⟩, .int .i64 1, .slice none 0 0, .slice none 0 0] 39)); have K6_4 := Lib.hid (blk_al (.cells #[.int .i64 0, .int .i64 (place T sf), .int .i64 0, .string ⟨#[]⟩, .int .i64 1, .slice none 0 0, .slice none 0 0] 39) K6_3.out); have K7_4 := Lib.hid (blk_al (.cells #[.int .i64 0, .int .i64 (place T sf), .int .i64 0, .string ⟨#[]⟩, .int .i64 1, .slice none 0 0, .slice none 0 0] 39) K7_3.out); have RW4 := Lib.hid (RW3.out.alloc (.cells #[.int .i64 0, .int .i64 (place T sf), .int .i64 0, .string ⟨#[]⟩, .int .i64 1, .slice none 0 0, .slice none 0 0] 39)); have KB4 := Lib.hid (Blk.new w3 #[.int .i64 0, .int .i64 (place T sf), .int .i64 0, .string ⟨#[]⟩, .int .i64 1, .slice none 0 0, .slice none 0 0] 39); have HB4 := Lib.hid (Nat.le_trans HB3.out (Nat.le_of_lt (al_lt w3 (.cells #[.int .i64 0, .int .i64 (place T sf), .int .i64 0, .string ⟨#[]⟩, .int .i64 1, .slice none 0 0, .slice none 0 0] 39)))); have ZO4 := Lib.hid ((Only.refl (fun b => b = g) w3).alloc (.cells #[.int .i64 0, .int .i64 (place T sf), .int .i64 0, .string ⟨#[]⟩, .int .i64 1, .slice none 0 0, .slice none 0 0] 39)); obtain ⟨⟨d0, d1, d2, d3⟩, -⟩ := P4.out.blk.four; rw [HSC.out] at d2)
        |(go_at_call 35; (with_reducible refine (OB.out _ P4.out).mono ?_); rintro e w5 ⟨rfl, p, o⟩; have P5 := Lib.hid p; have O5 := Lib.hid (O4.out.up o); have K6_5 := Lib.hid (K6_4.out.only o (by have := G6.out; omega)); have K7_5 := Lib.hid (K7_4.out.only o (by have := G7.out; omega)); have RW5 := Lib.hid (RW4.out.at_g o GB.out NQ.out); have HB5 := Lib.hid (Nat.le_trans HB4.out o.size); have ZO5 := Lib.hid (ZO4.out.up o); have KB5 := Lib.hid (KB4.out.only o (by have := HB3.out; have := GB.out; omega)); clear p o d0 d1 d2 d3))
       refine reg13_any P5.out HGG.out true HB13.out _ _ _ _ _ _ _ _ _ _ _ _ _ _ _ _ _ _ _ _ _ _ _ _ _ _ _ _ _ _ _ _ _ _ _ _ _ _ _ _ _ _ _ _ _ _ _ _ _ _ _ _ _ _ _ _ _ _ _ _ _ _ _ _ _ _ _ _ _ _ _ _ _ _ _ _ _ _ _ _ _ _ _ _ _ _ _ _ _ _ _ _ _ _ _ _ _ _ _ _ _ _ _ _ _ _ _ _ _ _ _ _ _ _ _ _ _ _ _ _ _ _ _ ?_
       intro b54 b55 b56 b57 b58 b59 b60 b61 b62 b63 b64 b65 b66 b67 b68 b69 b70 b71 b72 b73 b74 b75 b76 b77 b78 b79 b80 b81 b82 b83 b84 b85 b86 b87 b88 b89 b90 b91 b92 b93 b94 b95
       have P6 := Lib.hid (P5.out.sm (Sm.drewn w5))
       have O6 := Lib.hid (O5.out.bel ((Sm.drewn w5).below _))
       have K6_6 := Lib.hid (K6_5.out.below ((Sm.drewn w5).below _) K6_5.out.lt)
       have K7_6 := Lib.hid (K7_5.out.below ((Sm.drewn w5).below _) K7_5.out.lt)
       have KB6 := Lib.hid (KB5.out.below ((Sm.drewn w5).below _) KB5.out.lt)
       have ZO6 := Lib.hid ZO5.out.drew
       have HB6 := Lib.hid (show W.heap.size + 2 ≤ w5.drew.heap.size from HB5.out)
       generalize w5.drew = w6 at *
       obtain ⟨⟨k0, k1, k2, k3, k4, k5, k6⟩, kf0, kf1, kf2, kf3, kf4, kf5, kf6⟩ := KB6.out.seven
       have ob := Lib.hid (only_cell w6 w3.heap.size 0 (.int .i64 5))
       have P7 := Lib.hid (P6.out.only ob.out (fun i e => .inl (by have := HB3.out; have := GB.out; omega)))
       have O7 := Lib.hid (O6.out.trans ob.out (fun n e => .inr (by have := HB3.out; omega)))
       have K6_7 := Lib.hid (K6_6.out.only ob.out (by have := HB3.out; omega))
       have K7_7 := Lib.hid (K7_6.out.only ob.out (by have := HB3.out; omega))
       have KB7 := Lib.hid (blkE0 KB6.out (.int .i64 5))
       have ZO7 := Lib.hid (ZO6.out.trans ob.out (fun n e => .inr (Nat.le_of_eq e.symm)))
       have HB7 := Lib.hid (Nat.le_trans HB6.out ob.out.size)
       have EM := EMH.out
       obtain ⟨rv, erv⟩ : ∃ rv, ex (PrM.take T ⟨#[61]⟩ sn) = rv := ⟨_, rfl⟩
       have EXV := Lib.hid (fun W1 (h1 : PS W1 g tg c T (PrM.take T ⟨#[61]⟩ sn)) => EX.out W1 _ h1)
       rw [erv] at EXV EM
       clear erv
       have OC := Lib.hid (fun W1 (h1 : PS W1 g tg c T rv.2) => opt_any h1 HGG.out ⟨#[44]⟩)
       have OS := Lib.hid (fun W1 (h1 : PS W1 g tg c T rv.2) => opt_any h1 HGG.out ⟨#[59]⟩)
       unfold PrM.opt at OC OS
       have EM := Lib.hid EM
       go_wp2_with (first
        |(go_at_call 49; (with_reducible refine (NA.out _ P7.out).mono ?_); rintro e w8 ⟨rfl, p, o⟩; have P8 := Lib.hid p; have O8 := Lib.hid (O7.out.up o); have K6_8 := Lib.hid (K6_7.out.only o (by have := G6.out; omega)); have K7_8 := Lib.hid (K7_7.out.only o (by have := G7.out; omega)); have HB8 := Lib.hid (Nat.le_trans HB7.out o.size); have ZO8 := Lib.hid (ZO7.out.up o); have KB8 := Lib.hid (KB7.out.only o (by have := HB3.out; have := GB.out; omega)); clear p o k0 k1 k2 k3 k4 k5 k6 kf0 kf1 kf2 kf3 kf4 kf5 kf6; obtain ⟨⟨k0, k1, k2, k3, k4, k5, k6⟩, kf0, kf1, kf2, kf3, kf4, kf5, kf6⟩ := KB8.out.seven; have ob2 := Lib.hid (only_cell w8 w3.heap.size 3 (.string nm)); have P9 := Lib.hid (P8.out.only ob2.out (fun i e => .inl (by have := HB3.out; have := GB.out; omega))); have O9 := Lib.hid (O8.out.trans ob2.out (fun n e => .inr (by have := HB3.out; omega))); have K6_9 := Lib.hid (K6_8.out.only ob2.out (by have := HB3.out; omega)); have K7_9 := Lib.hid (K7_8.out.only ob2.out (by have := HB3.out; omega)); have KB9 := Lib.hid (blkE3 KB8.out (.string nm)); have ZO9 := Lib.hid (ZO8.out.trans ob2.out (fun n e => .inr (Nat.le_of_eq e.symm))); have HB9 := Lib.hid (Nat.le_trans HB8.out ob2.out.size))
        |(go_at_call 51; (with_reducible refine (TQ.out _ P9.out).mono ?_); rintro e w10 ⟨rfl, p, o⟩; have P10 := Lib.hid p; have O10 := Lib.hid (O9.out.up o); have K6_10 := Lib.hid (K6_9.out.only o (by have := G6.out; omega)); have K7_10 := Lib.hid (K7_9.out.only o (by have := G7.out; omega)); have HB10 := Lib.hid (Nat.le_trans HB9.out o.size); have ZO10 := Lib.hid (ZO9.out.up o); have KB10 := Lib.hid (KB9.out.only o (by have := HB3.out; have := GB.out; omega)); clear p o k0 k1 k2 k3 k4 k5 k6 kf0 kf1 kf2 kf3 kf4 kf5 kf6; have RW10 := Lib.hid (RW3.out.at_g ZO10.out GB.out NQ.out); have P20 := P10; have O20 := O10; have K6_20 := K6_10; have K7_20 := K7_10; have RW20 := RW10; have HB20 := HB10; have KB20 := KB10; have Rk_20 := Lib.hid (leaf_cells w10 (fun k => QT W k ∧ (Value.slice A l.len cq).ownBlock ≠ some k) 5 (place T sf) 0 nm 1))
        |(go_at_call 37; (with_reducible refine (EXV.out _ P20.out).mono ?_); rintro e w21 ⟨⟨u0, u1, u2, u3, u4, u5, u6, rfl, rd⟩, p, o, ii⟩; have P21 := Lib.hid p; have O21 := Lib.hid (O20.out.up o); have K6_21 := Lib.hid (K6_20.out.only o (by have := G6.out; omega)); have K7_21 := Lib.hid (K7_20.out.only o (by have := G7.out; omega)); have RW21 := Lib.hid (RW20.out.at_g o GB.out NQ.out); have HB21 := Lib.hid (Nat.le_trans HB20.out o.size); have KB21 := Lib.hid (KB20.out.only o (by have := HB3.out; have := GB.out; omega)); have Rk_21 := Lib.hid (mvQ NQE.out o Rk_20.out); have RV_21 := Lib.hid (OwnX.elem (w := w21) RW20.out (fun k hk => Nat.le_trans HB20.out hk) rd); have IV := Lib.hid ii; have NB := Lib.hid (Blk.new w21 Z7 39); clear p o rd ii)
        |(refine wpList_store_row rfl 39 (.tmp 10) (.tmp 104) rfl w21.heap.size #[u0, u1, u2, u3, u4, u5, u6] rfl rfl 39 _ NB.out sizeE rfl (ones7 (Rd.one_cells _ _ RV_21.out)) ?_; obtain ⟨w22, hw, bb, K10, ss⟩ := box7 w21 #[u0, u1, u2, u3, u4, u5, u6] Z7; rw [← hw]; clear hw NB; have P22 := Lib.hid (P21.out.only (Only.of_below (F := fun _ => False) bb.out) (fun _ f => f.elim)); have O22 := Lib.hid (O21.out.bel bb.out); have K6_22 := Lib.hid (K6_21.out.below bb.out K6_21.out.lt); have K7_22 := Lib.hid (K7_21.out.below bb.out K7_21.out.lt); have KB22 := Lib.hid (KB21.out.below bb.out KB21.out.lt); have RW22 := Lib.hid (RW21.out.below bb.out); have Rk_22 := Lib.hid (mv_below bb.out Rk_21.out); have RV_22 := Lib.hid (mv_below bb.out RV_21.out); have HB22 := Lib.hid (Nat.le_trans HB21.out bb.out.size); obtain ⟨⟨e0, e1, e2, e3, e4, e5, e6⟩, -⟩ := K7_22.out.seven; obtain ⟨⟨b0, b1, b2, b3, b4, b5, b6⟩, -⟩ := KB22.out.seven; obtain ⟨⟨c0, c1, c2, c3, c4, c5, c6⟩, -⟩ := K10.out.seven; have ZA := Lib.hid (RW22.out.alloc (.cells #[.int .i64 5, .int .i64 (place T sf), .int .i64 0, .string nm, .int .i64 1, .slice none 0 0, .slice none 0 0, u0, u1, u2, u3, u4, u5, u6] 39)).row; have KN := Lib.hid (Blk.new w22 #[.int .i64 5, .int .i64 (place T sf), .int .i64 0, .string nm, .int .i64 1, .slice none 0 0, .slice none 0 0, u0, u1, u2, u3, u4, u5, u6] 39); have SZ := Lib.hid (show W.heap.size + 2 ≤ (w22.alloc (.cells #[.int .i64 5, .int .i64 (place T sf), .int .i64 0, .string nm, .int .i64 1, .slice none 0 0, .slice none 0 0, u0, u1, u2, u3, u4, u5, u6] 39)).heap.size from Nat.le_trans HB22.out (Nat.le_of_lt (al_lt w22 _))); clear bb ss)
        |(at_builtin; refine wpList_append_two rfl (.tmp 106) (.tmp 109) rfl (W.heap.size + 2) (.slice A l.len cq) l.len ys ?_ ?_ w22.heap.size ?_ #[.int .i64 5, .int .i64 (place T sf), .int .i64 0, .string nm, .int .i64 1, .slice none 0 0, .slice none 0 0, u0, u1, u2, u3, u4, u5, u6] rfl ?_ ?_ ?_ ?_ ?_; rfl; exact ZA.out; rfl; exact KN.out; exact ones14 (Rd.one_cells _ _ Rk_22.out) (Rd.one_cells _ _ RV_22.out); omega; exact SZ.out; intro v6 w23 own6 g6 l6; have RW23 := Lib.hid (OwnX.pushed2 RW22.out Rk_22.out rfl RV_22.out rfl own6 g6 l6); have OG := Lib.hid (grown_only g6); have P23 := Lib.hid ((P22.out.alloc (.cells #[.int .i64 5, .int .i64 (place T sf), .int .i64 0, .string nm, .int .i64 1, .slice none 0 0, .slice none 0 0, u0, u1, u2, u3, u4, u5, u6] 39)).only OG.out (fun i e => .inl (Nat.lt_of_lt_of_le GB.out (RW22.out.row.lt i e).1))); have O23 := Lib.hid ((O22.out.alloc (.cells #[.int .i64 5, .int .i64 (place T sf), .int .i64 0, .string nm, .int .i64 1, .slice none 0 0, .slice none 0 0, u0, u1, u2, u3, u4, u5, u6] 39)).trans OG.out (fun i e => .inr (Nat.le_trans (Nat.le_add_right _ 2) (RW22.out.row.lt i e).1))); have K6_23 := Lib.hid ((blk_al (.cells #[.int .i64 5, .int .i64 (place T sf), .int .i64 0, .string nm, .int .i64 1, .slice none 0 0, .slice none 0 0, u0, u1, u2, u3, u4, u5, u6] 39) K6_22.out).only OG.out (fun e => by have := (RW22.out.row.lt _ e).1; omega)); have K7_23 := Lib.hid ((blk_al (.cells #[.int .i64 5, .int .i64 (place T sf), .int .i64 0, .string nm, .int .i64 1, .slice none 0 0, .slice none 0 0, u0, u1, u2, u3, u4, u5, u6] 39) K7_22.out).only OG.out (fun e => by have := (RW22.out.row.lt _ e).1; omega)); have HB23 := Lib.hid (Nat.le_trans SZ.out OG.out.size); clear own6 g6 l6 e0 e1 e2 e3 e4 e5 e6 b0 b1 b2 b3 b4 b5 b6 c0 c1 c2 c3 c4 c5 c6; obtain ⟨A6, c6, rfl, -⟩ := sl_shape2 (RW23.out.reads (fun k hk => hk)); obtain ⟨⟨e0, e1, e2, e3, e4, e5, e6⟩, f0, f1, f2, f3, f4, f5, f6⟩ := K7_23.out.seven; have ob := only_cell w23 (W.heap.size + 1) 5 (.slice A6 ((l.snoc (.e 5 (place T sf) 0 nm 1 .nil .nil)).snoc rv.1).len c6); have P24 := Lib.hid (P23.out.only ob (fun i e => .inl (by have := G7.out; omega))); have O24 := Lib.hid (O23.out.setCell (p := ⟨W.heap.size + 1, 5, none⟩) (.inr (Nat.le_succ _)) (.slice A6 ((l.snoc (.e 5 (place T sf) 0 nm 1 .nil .nil)).snoc rv.1).len c6)); have K6_24 := Lib.hid (K6_23.out.only ob (by omega)); have K7_24 := Lib.hid (blkE5 K7_23.out (.slice A6 ((l.snoc (.e 5 (place T sf) 0 nm 1 .nil .nil)).snoc rv.1).len c6)); have RW24 := Lib.hid (RW23.out.only ob (fun k e => ⟨by omega, by unfold QT; omega⟩)); have HB24 := Lib.hid (Nat.le_trans HB23.out ob.size); clear ob))
       have EM := EM.out
       cases h44 : is T ⟨#[44]⟩ rv.2 with
       | true =>
        rw [h44, if_pos rfl] at OC EM
        have EM := Lib.hid EM
        clear h44 OS
        go_wp2_with (first
         |(go_at_call 35; (with_reducible refine (OC.out _ P24.out).mono ?_); rintro e w25 ⟨rfl, p, o⟩; have P25 := Lib.hid p; have O25 := Lib.hid (O24.out.up o); have K6_25 := Lib.hid (K6_24.out.only o (by have := G6.out; omega)); have K7_25 := Lib.hid (K7_24.out.only o (by have := G7.out; omega)); have RW25 := Lib.hid (RW24.out.at_g o GB.out NQ.out); have HB25 := Lib.hid (Nat.le_trans HB24.out o.size); clear p o))
        refine ⟨⟨k, up rv.2, ((l.snoc (.e 5 (place T sf) 0 nm 1 .nil .nil)).snoc rv.1), n, _, _, rfl, P25.out, O25.out, K6_25.out, K7_25.out, RW25.out, HB25.out, EM.out, ?_, ?_, ?_, ?_, ?_⟩, ?_⟩
        ·intro _; have h1 := HK.out; have h2 := IV.out; have h3 := HF.out; have h4 := HI.out; have h5 := HL.out; have h6 := HN.out; have h7 : (up rv.2).i = rv.2.i + 1 := rfl; have h9 := HNI.out; have ha := take_i2 (T := T) ⟨#[61]⟩ sn; omega
        ·have h1 := HK.out; have h2 := IV.out; have h3 := HF.out; have h4 := HI.out; have h5 := HL.out; have h6 := HN.out; have h7 : (up rv.2).i = rv.2.i + 1 := rfl; have h9 := HNI.out; have ha := take_i2 (T := T) ⟨#[61]⟩ sn; omega
        ·rw [X.len_snoc, X.len_snoc]; have h1 := HK.out; have h2 := IV.out; have h3 := HF.out; have h4 := HI.out; have h5 := HL.out; have h6 := HN.out; have h7 : (up rv.2).i = rv.2.i + 1 := rfl; have h9 := HNI.out; have ha := take_i2 (T := T) ⟨#[61]⟩ sn; omega
        ·omega
        ·have h1 := HK.out; have h2 := IV.out; have h3 := HF.out; have h4 := HI.out; have h5 := HL.out; have h6 := HN.out; have h7 : (up rv.2).i = rv.2.i + 1 := rfl; have h9 := HNI.out; have ha := take_i2 (T := T) ⟨#[61]⟩ sn; omega
        ·rw [P25.out.mB, MB.out, if_pos HC.out]
         have h1 := HK.out; have h2 := IV.out; have h3 := HF.out; have h4 := HI.out; have h5 := HL.out; have h6 := HN.out; have h7 : (up rv.2).i = rv.2.i + 1 := rfl; have h9 := HNI.out; have ha := take_i2 (T := T) ⟨#[61]⟩ sn
         have := P0.out.inb
         split <;> omega
       | false =>
        rw [h44, if_neg (by decide)] at OC EM
        cases h59 : is T ⟨#[59]⟩ rv.2 with
        | true =>
         rw [h59, if_pos rfl] at OS EM
         have EM := Lib.hid EM
         clear h44 h59
         go_wp2_with (first
          |(go_at_call 35; (with_reducible refine (OC.out _ P24.out).mono ?_); rintro e w25 ⟨rfl, p, o⟩; have P25 := Lib.hid p; have O25 := Lib.hid (O24.out.up o); have K6_25 := Lib.hid (K6_24.out.only o (by have := G6.out; omega)); have K7_25 := Lib.hid (K7_24.out.only o (by have := G7.out; omega)); have RW25 := Lib.hid (RW24.out.at_g o GB.out NQ.out); have HB25 := Lib.hid (Nat.le_trans HB24.out o.size); clear p o)
          |(go_at_call 35; (with_reducible refine (OS.out _ P25.out).mono ?_); rintro e w26 ⟨rfl, p, o⟩; have P26 := Lib.hid p; have O26 := Lib.hid (O25.out.up o); have K6_26 := Lib.hid (K6_25.out.only o (by have := G6.out; omega)); have K7_26 := Lib.hid (K7_25.out.only o (by have := G7.out; omega)); have RW26 := Lib.hid (RW25.out.at_g o GB.out NQ.out); have HB26 := Lib.hid (Nat.le_trans HB25.out o.size); clear p o))
         refine ⟨⟨k, up rv.2, ((l.snoc (.e 5 (place T sf) 0 nm 1 .nil .nil)).snoc rv.1), n, _, _, rfl, P26.out, O26.out, K6_26.out, K7_26.out, RW26.out, HB26.out, EM.out, ?_, ?_, ?_, ?_, ?_⟩, ?_⟩
         ·intro _; have h1 := HK.out; have h2 := IV.out; have h3 := HF.out; have h4 := HI.out; have h5 := HL.out; have h6 := HN.out; have h7 : (up rv.2).i = rv.2.i + 1 := rfl; have h9 := HNI.out; have ha := take_i2 (T := T) ⟨#[61]⟩ sn; omega
         ·have h1 := HK.out; have h2 := IV.out; have h3 := HF.out; have h4 := HI.out; have h5 := HL.out; have h6 := HN.out; have h7 : (up rv.2).i = rv.2.i + 1 := rfl; have h9 := HNI.out; have ha := take_i2 (T := T) ⟨#[61]⟩ sn; omega
         ·rw [X.len_snoc, X.len_snoc]; have h1 := HK.out; have h2 := IV.out; have h3 := HF.out; have h4 := HI.out; have h5 := HL.out; have h6 := HN.out; have h7 : (up rv.2).i = rv.2.i + 1 := rfl; have h9 := HNI.out; have ha := take_i2 (T := T) ⟨#[61]⟩ sn; omega
         ·omega
         ·have h1 := HK.out; have h2 := IV.out; have h3 := HF.out; have h4 := HI.out; have h5 := HL.out; have h6 := HN.out; have h7 : (up rv.2).i = rv.2.i + 1 := rfl; have h9 := HNI.out; have ha := take_i2 (T := T) ⟨#[61]⟩ sn; omega
         ·rw [P26.out.mB, MB.out, if_pos HC.out]
          have h1 := HK.out; have h2 := IV.out; have h3 := HF.out; have h4 := HI.out; have h5 := HL.out; have h6 := HN.out; have h7 : (up rv.2).i = rv.2.i + 1 := rfl; have h9 := HNI.out; have ha := take_i2 (T := T) ⟨#[61]⟩ sn
          have := P0.out.inb
          split <;> omega
        | false =>
         rw [h59, if_neg (by decide)] at OS EM
         have ER := Lib.hid EM.symm
         clear h44 h59 EM
         go_wp2_with (first
          |(go_at_call 35; (with_reducible refine (OC.out _ P24.out).mono ?_); rintro e w25 ⟨rfl, p, o⟩; have P25 := Lib.hid p; have O25 := Lib.hid (O24.out.up o); have K6_25 := Lib.hid (K6_24.out.only o (by have := G6.out; omega)); have K7_25 := Lib.hid (K7_24.out.only o (by have := G7.out; omega)); have RW25 := Lib.hid (RW24.out.at_g o GB.out NQ.out); have HB25 := Lib.hid (Nat.le_trans HB24.out o.size); clear p o)
          |(go_at_call 35; (with_reducible refine (OS.out _ P25.out).mono ?_); rintro e w26 ⟨rfl, p, o⟩; have P26 := Lib.hid p; have O26 := Lib.hid (O25.out.up o); have K6_26 := Lib.hid (K6_25.out.only o (by have := G6.out; omega)); have K7_26 := Lib.hid (K7_25.out.only o (by have := G7.out; omega)); have RW26 := Lib.hid (RW25.out.at_g o GB.out NQ.out); have HB26 := Lib.hid (Nat.le_trans HB25.out o.size); clear p o)
          |(go_at_call 51; (with_reducible refine (take_any P26.out HGG.out ⟨#[125]⟩).mono ?_); rintro e w50 ⟨rfl, p, o⟩; have P27 := Lib.hid p; have O27 := Lib.hid (O26.out.up o); have K6_27 := Lib.hid (K6_26.out.only o (by have := G6.out; omega)); have K7_27 := Lib.hid (K7_26.out.only o (by have := G7.out; omega)); have RW27 := Lib.hid (RW26.out.at_g o GB.out NQ.out); have HB27 := Lib.hid (Nat.le_trans HB26.out o.size); clear p o; have P50 := P27; have O50 := O27; have K6_50 := K6_27; have K7_50 := K7_27; have RW50 := RW27; have HB50 := HB27; obtain ⟨⟨a0, a1, a2, a3, a4, a5, a6⟩, -⟩ := K7_50.out.seven)
          |(refine wpList_store_row rfl 39 (.tmp 6) (.tmp 122) rfl W.heap.size #[.int .i64 8, .int .i64 a, .int .i64 0, .string ⟨#[]⟩, .int .i64 0, .slice A6 ((l.snoc (.e 5 (place T sf) 0 nm 1 .nil .nil)).snoc rv.1).len c6, .slice none 0 0] rfl rfl 39 _ K6_50.out sizeE rfl (by simp [Value.oneCell']) ?_)
          |(refine wp_store_row 39 (.tmp 6) (.tmp 122) rfl W.heap.size #[.int .i64 8, .int .i64 a, .int .i64 0, .string ⟨#[]⟩, .int .i64 0, .slice A6 ((l.snoc (.e 5 (place T sf) 0 nm 1 .nil .nil)).snoc rv.1).len c6, .slice none 0 0] rfl rfl 39 _ K6_50.out sizeE rfl (by simp [Value.oneCell']) ?_))
         try simp only [Exit.inBlock, Exit.then]
         refine bodyPost_ret (res7 rfl _ _ W.heap.size _ _ _ _ _ _ _ rfl (blk_row K6_50.out)) rfl ?_
         have er := ER.out
         rw [er]
         have oo := only_row w50 W.heap.size #[.int .i64 8, .int .i64 a, .int .i64 0, .string ⟨#[]⟩, .int .i64 0, .slice A6 ((l.snoc (.e 5 (place T sf) 0 nm 1 .nil .nil)).snoc rv.1).len c6, .slice none 0 0]
         exact ⟨⟨_, _, _, _, _, _, _, rfl, _, _, rfl, (RW50.out.reads (fun k hk => hk)).imp (Rd.move (Moves.of_only oo (fun k hk _ e => by have hk : W.heap.size + 2 ≤ k := hk; omega) (fun k hk _ => by have hk : W.heap.size + 2 ≤ k := hk; show W.heap.size ≤ k; omega)) _).2.1, sl_nil _ _ _⟩, P50.out.only oo (fun i e => .inl (by have := G6.out; omega)), O50.out.row W.heap.size (.inr (Nat.le_refl _)) _, (by have h1 := HK.out; have h2 := IV.out; have h3 := HF.out; have h4 := HI.out; have h5 := HL.out; have h6 := HN.out; have h7 : (up rv.2).i = rv.2.i + 1 := rfl; have h9 := HNI.out; have ha := take_i2 (T := T) ⟨#[61]⟩ sn; have h8 := take_i2 (T := T) ⟨#[125]⟩ rv.2; exact Nat.le_trans (show st.i ≤ rv.2.i by omega) h8)⟩
      ·rw [if_neg h13] at EM
       dsimp only at EM
       have HB13 : Hid (false = decide ((PrM.tk T sf).kind = 2 ∧ (PrM.tk T (up sf)).kind = 5 ∧ (PrM.tk T (up sf)).text = [61])) := Lib.hid (decide_eq_false h13).symm
       clear h13 hs hsc
       have EMH := Lib.hid EM
       clear EM
       go_wp2_with (first
        |(go_at_call 36; (with_reducible refine (IS.out _ P0.out).mono ?_); rintro e w1 ⟨rfl, b⟩; have P1 := Lib.hid (P0.out.below b); have O1 := Lib.hid (O0.out.bel b); have K6_1 := Lib.hid (K6_0.out.below b K6_0.out.lt); have K7_1 := Lib.hid (K7_0.out.below b K7_0.out.lt); have RW1 := Lib.hid (RW0.out.below b); have HB1 := Lib.hid (Nat.le_trans HB0.out b.size); clear b; obtain ⟨⟨e0, e1, e2, e3, e4, e5, e6⟩, -⟩ := K7_1.out.seven)
        |(go_at_call 60; refine (FU.out _ P1.out).mono ?_; rintro e w2 ⟨rfl, p, o⟩; have P2 := Lib.hid p; have O2 := Lib.hid (O1.out.up o); have K6_2 := Lib.hid (K6_1.out.only o (by have := G6.out; omega)); have K7_2 := Lib.hid (K7_1.out.only o (by have := G7.out; omega)); have RW2 := Lib.hid (RW1.out.at_g o GB.out NQ.out); have HB2 := Lib.hid (Nat.le_trans HB1.out o.size); clear p o e0 e1 e2 e3 e4 e5 e6)
        |(go_at_call 34; (with_reducible refine (place_any P2.out).mono ?_); rintro e w3 ⟨rfl, sm⟩; have P3 := Lib.hid (P2.out.sm sm); have O3 := Lib.hid (O2.out.bel (sm.below _)); have K6_3 := Lib.hid (K6_2.out.below (sm.below _) K6_2.out.lt); have K7_3 := Lib.hid (K7_2.out.below (sm.below _) K7_2.out.lt); have RW3 := Lib.hid (RW2.out.below (sm.below _)); have HB3 := Lib.hid (Nat.le_trans HB2.out (sm.below 0).size); clear sm; have P4 := Lib.hid (P3.out.alloc (.cells #[.int .i64 0, .int .i64 (place T sf), .int .i64 0, .string ⟨#[]⟩, .int .i64 1, .slice none 0 0, .slice none 0 0] 39)); have O4 := Lib.hid (O3.out.alloc (.cells #[.int .i64 0, .int .i64 (place T sf), .int .i64 0, .string ⟨#[]⟩, .int .i64 1, .slice none 0 0, .slice none 0 0] 39)); have K6_4 := Lib.hid (blk_al (.cells #[.int .i64 0, .int .i64 (place T sf), .int .i64 0, .string ⟨#[]⟩, .int .i64 1, .slice none 0 0, .slice none 0 0] 39) K6_3.out); have K7_4 := Lib.hid (blk_al (.cells #[.int .i64 0, .int .i64 (place T sf), .int .i64 0, .string ⟨#[]⟩, .int .i64 1, .slice none 0 0, .slice none 0 0] 39) K7_3.out); have RW4 := Lib.hid (RW3.out.alloc (.cells #[.int .i64 0, .int .i64 (place T sf), .int .i64 0, .string ⟨#[]⟩, .int .i64 1, .slice none 0 0, .slice none 0 0] 39)); have KB4 := Lib.hid (Blk.new w3 #[.int .i64 0, .int .i64 (place T sf), .int .i64 0, .string ⟨#[]⟩, .int .i64 1, .slice none 0 0, .slice none 0 0] 39); have HB4 := Lib.hid (Nat.le_trans HB3.out (Nat.le_of_lt (al_lt w3 (.cells #[.int .i64 0, .int .i64 (place T sf), .int .i64 0, .string ⟨#[]⟩, .int .i64 1, .slice none 0 0, .slice none 0 0] 39)))); have ZO4 := Lib.hid ((Only.refl (fun b => b = g) w3).alloc (.cells #[.int .i64 0, .int .i64 (place T sf), .int .i64 0, .string ⟨#[]⟩, .int .i64 1, .slice none 0 0, .slice none 0 0] 39)); obtain ⟨⟨d0, d1, d2, d3⟩, -⟩ := P4.out.blk.four; rw [HSC.out] at d2)
        |(go_at_call 35; (with_reducible refine (OB.out _ P4.out).mono ?_); rintro e w5 ⟨rfl, p, o⟩; have P5 := Lib.hid p; have O5 := Lib.hid (O4.out.up o); have K6_5 := Lib.hid (K6_4.out.only o (by have := G6.out; omega)); have K7_5 := Lib.hid (K7_4.out.only o (by have := G7.out; omega)); have RW5 := Lib.hid (RW4.out.at_g o GB.out NQ.out); have HB5 := Lib.hid (Nat.le_trans HB4.out o.size); have ZO5 := Lib.hid (ZO4.out.up o); have KB5 := Lib.hid (KB4.out.only o (by have := HB3.out; have := GB.out; omega)); clear p o d0 d1 d2 d3))
       refine reg13_any P5.out HGG.out false HB13.out _ _ _ _ _ _ _ _ _ _ _ _ _ _ _ _ _ _ _ _ _ _ _ _ _ _ _ _ _ _ _ _ _ _ _ _ _ _ _ _ _ _ _ _ _ _ _ _ _ _ _ _ _ _ _ _ _ _ _ _ _ _ _ _ _ _ _ _ _ _ _ _ _ _ _ _ _ _ _ _ _ _ _ _ _ _ _ _ _ _ _ _ _ _ _ _ _ _ _ _ _ _ _ _ _ _ _ _ _ _ _ _ _ _ _ _ _ _ _ _ _ _ _ ?_
       intro b54 b55 b56 b57 b58 b59 b60 b61 b62 b63 b64 b65 b66 b67 b68 b69 b70 b71 b72 b73 b74 b75 b76 b77 b78 b79 b80 b81 b82 b83 b84 b85 b86 b87 b88 b89 b90 b91 b92 b93 b94 b95
       have P6 := Lib.hid (P5.out.sm (Sm.drewn w5))
       have O6 := Lib.hid (O5.out.bel ((Sm.drewn w5).below _))
       have K6_6 := Lib.hid (K6_5.out.below ((Sm.drewn w5).below _) K6_5.out.lt)
       have K7_6 := Lib.hid (K7_5.out.below ((Sm.drewn w5).below _) K7_5.out.lt)
       have KB6 := Lib.hid (KB5.out.below ((Sm.drewn w5).below _) KB5.out.lt)
       have ZO6 := Lib.hid ZO5.out.drew
       have HB6 := Lib.hid (show W.heap.size + 2 ≤ w5.drew.heap.size from HB5.out)
       generalize w5.drew = w6 at *
       obtain ⟨⟨k0, k1, k2, k3, k4, k5, k6⟩, kf0, kf1, kf2, kf3, kf4, kf5, kf6⟩ := KB6.out.seven
       have ob := Lib.hid (only_cell w6 w3.heap.size 0 (.int .i64 4))
       have P7 := Lib.hid (P6.out.only ob.out (fun i e => .inl (by have := HB3.out; have := GB.out; omega)))
       have O7 := Lib.hid (O6.out.trans ob.out (fun n e => .inr (by have := HB3.out; omega)))
       have K6_7 := Lib.hid (K6_6.out.only ob.out (by have := HB3.out; omega))
       have K7_7 := Lib.hid (K7_6.out.only ob.out (by have := HB3.out; omega))
       have KB7 := Lib.hid (blkE0 KB6.out (.int .i64 4))
       have ZO7 := Lib.hid (ZO6.out.trans ob.out (fun n e => .inr (Nat.le_of_eq e.symm)))
       have HB7 := Lib.hid (Nat.le_trans HB6.out ob.out.size)
       have ob2 := Lib.hid (only_cell (w6.setCell ⟨w3.heap.size, 0, none⟩ (.int .i64 4)) w3.heap.size 2 (.int .i64 (n + 1)))
       have P8 := Lib.hid (P7.out.only ob2.out (fun i e => .inl (by have := HB3.out; have := GB.out; omega)))
       have O8 := Lib.hid (O7.out.trans ob2.out (fun n e => .inr (by have := HB3.out; omega)))
       have K6_8 := Lib.hid (K6_7.out.only ob2.out (by have := HB3.out; omega))
       have K7_8 := Lib.hid (K7_7.out.only ob2.out (by have := HB3.out; omega))
       have KB8 := Lib.hid (blkE2 KB7.out (.int .i64 (n + 1)))
       have ZO8 := Lib.hid (ZO7.out.trans ob2.out (fun n e => .inr (Nat.le_of_eq e.symm)))
       have HB8 := Lib.hid (Nat.le_trans HB7.out ob2.out.size)
       obtain ⟨⟨g0, g1, g2, g3, g4, g5, g6⟩, gf0, gf1, gf2, gf3, gf4, gf5, gf6⟩ := KB7.out.seven
       have RW8 := Lib.hid (RW3.out.at_g ZO8.out GB.out NQ.out)
       have P20 := P8
       have O20 := O8
       have K6_20 := K6_8
       have K7_20 := K7_8
       have RW20 := RW8
       have HB20 := HB8
       have KB20 := KB8
       have Rk_20 := Lib.hid (leaf_cells ((w6.setCell ⟨w3.heap.size, 0, none⟩ (.int .i64 4)).setCell ⟨w3.heap.size, 2, none⟩ (.int .i64 (n + 1))) (fun k => QT W k ∧ (Value.slice A l.len cq).ownBlock ≠ some k) 4 (place T sf) (n + 1) ⟨#[]⟩ 1)
       have EM := EMH.out
       obtain ⟨rv, erv⟩ : ∃ rv, ex sf = rv := ⟨_, rfl⟩
       have EXV := Lib.hid (fun W1 (h1 : PS W1 g tg c T sf) => EX.out W1 _ h1)
       rw [erv] at EXV EM
       clear erv
       have OC := Lib.hid (fun W1 (h1 : PS W1 g tg c T rv.2) => opt_any h1 HGG.out ⟨#[44]⟩)
       have OS := Lib.hid (fun W1 (h1 : PS W1 g tg c T rv.2) => opt_any h1 HGG.out ⟨#[59]⟩)
       unfold PrM.opt at OC OS
       have EM := Lib.hid EM
       go_wp2_with (first
        |(go_at_call 37; (with_reducible refine (EXV.out _ P20.out).mono ?_); rintro e w21 ⟨⟨u0, u1, u2, u3, u4, u5, u6, rfl, rd⟩, p, o, ii⟩; have P21 := Lib.hid p; have O21 := Lib.hid (O20.out.up o); have K6_21 := Lib.hid (K6_20.out.only o (by have := G6.out; omega)); have K7_21 := Lib.hid (K7_20.out.only o (by have := G7.out; omega)); have RW21 := Lib.hid (RW20.out.at_g o GB.out NQ.out); have HB21 := Lib.hid (Nat.le_trans HB20.out o.size); have KB21 := Lib.hid (KB20.out.only o (by have := HB3.out; have := GB.out; omega)); have Rk_21 := Lib.hid (mvQ NQE.out o Rk_20.out); have RV_21 := Lib.hid (OwnX.elem (w := w21) RW20.out (fun k hk => Nat.le_trans HB20.out hk) rd); have IV := Lib.hid ii; have NB := Lib.hid (Blk.new w21 Z7 39); clear p o rd ii)
        |(refine wpList_store_row rfl 39 (.tmp 10) (.tmp 104) rfl w21.heap.size #[u0, u1, u2, u3, u4, u5, u6] rfl rfl 39 _ NB.out sizeE rfl (ones7 (Rd.one_cells _ _ RV_21.out)) ?_; obtain ⟨w22, hw, bb, K10, ss⟩ := box7 w21 #[u0, u1, u2, u3, u4, u5, u6] Z7; rw [← hw]; clear hw NB; have P22 := Lib.hid (P21.out.only (Only.of_below (F := fun _ => False) bb.out) (fun _ f => f.elim)); have O22 := Lib.hid (O21.out.bel bb.out); have K6_22 := Lib.hid (K6_21.out.below bb.out K6_21.out.lt); have K7_22 := Lib.hid (K7_21.out.below bb.out K7_21.out.lt); have KB22 := Lib.hid (KB21.out.below bb.out KB21.out.lt); have RW22 := Lib.hid (RW21.out.below bb.out); have Rk_22 := Lib.hid (mv_below bb.out Rk_21.out); have RV_22 := Lib.hid (mv_below bb.out RV_21.out); have HB22 := Lib.hid (Nat.le_trans HB21.out bb.out.size); obtain ⟨⟨e0, e1, e2, e3, e4, e5, e6⟩, -⟩ := K7_22.out.seven; obtain ⟨⟨b0, b1, b2, b3, b4, b5, b6⟩, -⟩ := KB22.out.seven; obtain ⟨⟨c0, c1, c2, c3, c4, c5, c6⟩, -⟩ := K10.out.seven; have ZA := Lib.hid (RW22.out.alloc (.cells #[.int .i64 4, .int .i64 (place T sf), .int .i64 (n + 1), .string ⟨#[]⟩, .int .i64 1, .slice none 0 0, .slice none 0 0, u0, u1, u2, u3, u4, u5, u6] 39)).row; have KN := Lib.hid (Blk.new w22 #[.int .i64 4, .int .i64 (place T sf), .int .i64 (n + 1), .string ⟨#[]⟩, .int .i64 1, .slice none 0 0, .slice none 0 0, u0, u1, u2, u3, u4, u5, u6] 39); have SZ := Lib.hid (show W.heap.size + 2 ≤ (w22.alloc (.cells #[.int .i64 4, .int .i64 (place T sf), .int .i64 (n + 1), .string ⟨#[]⟩, .int .i64 1, .slice none 0 0, .slice none 0 0, u0, u1, u2, u3, u4, u5, u6] 39)).heap.size from Nat.le_trans HB22.out (Nat.le_of_lt (al_lt w22 _))); clear bb ss)
        |(at_builtin; refine wpList_append_two rfl (.tmp 106) (.tmp 109) rfl (W.heap.size + 2) (.slice A l.len cq) l.len ys ?_ ?_ w22.heap.size ?_ #[.int .i64 4, .int .i64 (place T sf), .int .i64 (n + 1), .string ⟨#[]⟩, .int .i64 1, .slice none 0 0, .slice none 0 0, u0, u1, u2, u3, u4, u5, u6] rfl ?_ ?_ ?_ ?_ ?_; rfl; exact ZA.out; rfl; exact KN.out; exact ones14 (Rd.one_cells _ _ Rk_22.out) (Rd.one_cells _ _ RV_22.out); omega; exact SZ.out; intro v6 w23 own6 g6 l6; have RW23 := Lib.hid (OwnX.pushed2 RW22.out Rk_22.out rfl RV_22.out rfl own6 g6 l6); have OG := Lib.hid (grown_only g6); have P23 := Lib.hid ((P22.out.alloc (.cells #[.int .i64 4, .int .i64 (place T sf), .int .i64 (n + 1), .string ⟨#[]⟩, .int .i64 1, .slice none 0 0, .slice none 0 0, u0, u1, u2, u3, u4, u5, u6] 39)).only OG.out (fun i e => .inl (Nat.lt_of_lt_of_le GB.out (RW22.out.row.lt i e).1))); have O23 := Lib.hid ((O22.out.alloc (.cells #[.int .i64 4, .int .i64 (place T sf), .int .i64 (n + 1), .string ⟨#[]⟩, .int .i64 1, .slice none 0 0, .slice none 0 0, u0, u1, u2, u3, u4, u5, u6] 39)).trans OG.out (fun i e => .inr (Nat.le_trans (Nat.le_add_right _ 2) (RW22.out.row.lt i e).1))); have K6_23 := Lib.hid ((blk_al (.cells #[.int .i64 4, .int .i64 (place T sf), .int .i64 (n + 1), .string ⟨#[]⟩, .int .i64 1, .slice none 0 0, .slice none 0 0, u0, u1, u2, u3, u4, u5, u6] 39) K6_22.out).only OG.out (fun e => by have := (RW22.out.row.lt _ e).1; omega)); have K7_23 := Lib.hid ((blk_al (.cells #[.int .i64 4, .int .i64 (place T sf), .int .i64 (n + 1), .string ⟨#[]⟩, .int .i64 1, .slice none 0 0, .slice none 0 0, u0, u1, u2, u3, u4, u5, u6] 39) K7_22.out).only OG.out (fun e => by have := (RW22.out.row.lt _ e).1; omega)); have HB23 := Lib.hid (Nat.le_trans SZ.out OG.out.size); clear own6 g6 l6 e0 e1 e2 e3 e4 e5 e6 b0 b1 b2 b3 b4 b5 b6 c0 c1 c2 c3 c4 c5 c6; obtain ⟨A6, c6, rfl, -⟩ := sl_shape2 (RW23.out.reads (fun k hk => hk)); obtain ⟨⟨e0, e1, e2, e3, e4, e5, e6⟩, f0, f1, f2, f3, f4, f5, f6⟩ := K7_23.out.seven; have ob := only_cell w23 (W.heap.size + 1) 5 (.slice A6 ((l.snoc (.e 4 (place T sf) (n + 1) ⟨#[]⟩ 1 .nil .nil)).snoc rv.1).len c6); have P24 := Lib.hid (P23.out.only ob (fun i e => .inl (by have := G7.out; omega))); have O24 := Lib.hid (O23.out.setCell (p := ⟨W.heap.size + 1, 5, none⟩) (.inr (Nat.le_succ _)) (.slice A6 ((l.snoc (.e 4 (place T sf) (n + 1) ⟨#[]⟩ 1 .nil .nil)).snoc rv.1).len c6)); have K6_24 := Lib.hid (K6_23.out.only ob (by omega)); have K7_24 := Lib.hid (blkE5 K7_23.out (.slice A6 ((l.snoc (.e 4 (place T sf) (n + 1) ⟨#[]⟩ 1 .nil .nil)).snoc rv.1).len c6)); have RW24 := Lib.hid (RW23.out.only ob (fun k e => ⟨by omega, by unfold QT; omega⟩)); have HB24 := Lib.hid (Nat.le_trans HB23.out ob.size); clear ob))
       have EM := EM.out
       cases h44 : is T ⟨#[44]⟩ rv.2 with
       | true =>
        rw [h44, if_pos rfl] at OC EM
        have EM := Lib.hid EM
        clear h44 OS
        go_wp2_with (first
         |(go_at_call 35; (with_reducible refine (OC.out _ P24.out).mono ?_); rintro e w25 ⟨rfl, p, o⟩; have P25 := Lib.hid p; have O25 := Lib.hid (O24.out.up o); have K6_25 := Lib.hid (K6_24.out.only o (by have := G6.out; omega)); have K7_25 := Lib.hid (K7_24.out.only o (by have := G7.out; omega)); have RW25 := Lib.hid (RW24.out.at_g o GB.out NQ.out); have HB25 := Lib.hid (Nat.le_trans HB24.out o.size); clear p o))
        refine ⟨⟨k, up rv.2, ((l.snoc (.e 4 (place T sf) (n + 1) ⟨#[]⟩ 1 .nil .nil)).snoc rv.1), (n + 1), _, _, rfl, P25.out, O25.out, K6_25.out, K7_25.out, RW25.out, HB25.out, EM.out, ?_, ?_, ?_, ?_, ?_⟩, ?_⟩
        ·intro _; have h1 := HK.out; have h2 := IV.out; have h3 := HF.out; have h4 := HI.out; have h5 := HL.out; have h6 := HN.out; have h7 : (up rv.2).i = rv.2.i + 1 := rfl; skip; omega
        ·have h1 := HK.out; have h2 := IV.out; have h3 := HF.out; have h4 := HI.out; have h5 := HL.out; have h6 := HN.out; have h7 : (up rv.2).i = rv.2.i + 1 := rfl; skip; omega
        ·rw [X.len_snoc, X.len_snoc]; have h1 := HK.out; have h2 := IV.out; have h3 := HF.out; have h4 := HI.out; have h5 := HL.out; have h6 := HN.out; have h7 : (up rv.2).i = rv.2.i + 1 := rfl; skip; omega
        ·omega
        ·have h1 := HK.out; have h2 := IV.out; have h3 := HF.out; have h4 := HI.out; have h5 := HL.out; have h6 := HN.out; have h7 : (up rv.2).i = rv.2.i + 1 := rfl; skip; omega
        ·rw [P25.out.mB, MB.out, if_pos HC.out]
         have h1 := HK.out; have h2 := IV.out; have h3 := HF.out; have h4 := HI.out; have h5 := HL.out; have h6 := HN.out; have h7 : (up rv.2).i = rv.2.i + 1 := rfl; skip
         have := P0.out.inb
         split <;> omega
       | false =>
        rw [h44, if_neg (by decide)] at OC EM
        cases h59 : is T ⟨#[59]⟩ rv.2 with
        | true =>
         rw [h59, if_pos rfl] at OS EM
         have EM := Lib.hid EM
         clear h44 h59
         go_wp2_with (first
          |(go_at_call 35; (with_reducible refine (OC.out _ P24.out).mono ?_); rintro e w25 ⟨rfl, p, o⟩; have P25 := Lib.hid p; have O25 := Lib.hid (O24.out.up o); have K6_25 := Lib.hid (K6_24.out.only o (by have := G6.out; omega)); have K7_25 := Lib.hid (K7_24.out.only o (by have := G7.out; omega)); have RW25 := Lib.hid (RW24.out.at_g o GB.out NQ.out); have HB25 := Lib.hid (Nat.le_trans HB24.out o.size); clear p o)
          |(go_at_call 35; (with_reducible refine (OS.out _ P25.out).mono ?_); rintro e w26 ⟨rfl, p, o⟩; have P26 := Lib.hid p; have O26 := Lib.hid (O25.out.up o); have K6_26 := Lib.hid (K6_25.out.only o (by have := G6.out; omega)); have K7_26 := Lib.hid (K7_25.out.only o (by have := G7.out; omega)); have RW26 := Lib.hid (RW25.out.at_g o GB.out NQ.out); have HB26 := Lib.hid (Nat.le_trans HB25.out o.size); clear p o))
         refine ⟨⟨k, up rv.2, ((l.snoc (.e 4 (place T sf) (n + 1) ⟨#[]⟩ 1 .nil .nil)).snoc rv.1), (n + 1), _, _, rfl, P26.out, O26.out, K6_26.out, K7_26.out, RW26.out, HB26.out, EM.out, ?_, ?_, ?_, ?_, ?_⟩, ?_⟩
         ·intro _; have h1 := HK.out; have h2 := IV.out; have h3 := HF.out; have h4 := HI.out; have h5 := HL.out; have h6 := HN.out; have h7 : (up rv.2).i = rv.2.i + 1 := rfl; skip; omega
         ·have h1 := HK.out; have h2 := IV.out; have h3 := HF.out; have h4 := HI.out; have h5 := HL.out; have h6 := HN.out; have h7 : (up rv.2).i = rv.2.i + 1 := rfl; skip; omega
         ·rw [X.len_snoc, X.len_snoc]; have h1 := HK.out; have h2 := IV.out; have h3 := HF.out; have h4 := HI.out; have h5 := HL.out; have h6 := HN.out; have h7 : (up rv.2).i = rv.2.i + 1 := rfl; skip; omega
         ·omega
         ·have h1 := HK.out; have h2 := IV.out; have h3 := HF.out; have h4 := HI.out; have h5 := HL.out; have h6 := HN.out; have h7 : (up rv.2).i = rv.2.i + 1 := rfl; skip; omega
         ·rw [P26.out.mB, MB.out, if_pos HC.out]
          have h1 := HK.out; have h2 := IV.out; have h3 := HF.out; have h4 := HI.out; have h5 := HL.out; have h6 := HN.out; have h7 : (up rv.2).i = rv.2.i + 1 := rfl; skip
          have := P0.out.inb
          split <;> omega
        | false =>
         rw [h59, if_neg (by decide)] at OS EM
         have ER := Lib.hid EM.symm
         clear h44 h59 EM
         go_wp2_with (first
          |(go_at_call 35; (with_reducible refine (OC.out _ P24.out).mono ?_); rintro e w25 ⟨rfl, p, o⟩; have P25 := Lib.hid p; have O25 := Lib.hid (O24.out.up o); have K6_25 := Lib.hid (K6_24.out.only o (by have := G6.out; omega)); have K7_25 := Lib.hid (K7_24.out.only o (by have := G7.out; omega)); have RW25 := Lib.hid (RW24.out.at_g o GB.out NQ.out); have HB25 := Lib.hid (Nat.le_trans HB24.out o.size); clear p o)
          |(go_at_call 35; (with_reducible refine (OS.out _ P25.out).mono ?_); rintro e w26 ⟨rfl, p, o⟩; have P26 := Lib.hid p; have O26 := Lib.hid (O25.out.up o); have K6_26 := Lib.hid (K6_25.out.only o (by have := G6.out; omega)); have K7_26 := Lib.hid (K7_25.out.only o (by have := G7.out; omega)); have RW26 := Lib.hid (RW25.out.at_g o GB.out NQ.out); have HB26 := Lib.hid (Nat.le_trans HB25.out o.size); clear p o)
          |(go_at_call 51; (with_reducible refine (take_any P26.out HGG.out ⟨#[125]⟩).mono ?_); rintro e w50 ⟨rfl, p, o⟩; have P27 := Lib.hid p; have O27 := Lib.hid (O26.out.up o); have K6_27 := Lib.hid (K6_26.out.only o (by have := G6.out; omega)); have K7_27 := Lib.hid (K7_26.out.only o (by have := G7.out; omega)); have RW27 := Lib.hid (RW26.out.at_g o GB.out NQ.out); have HB27 := Lib.hid (Nat.le_trans HB26.out o.size); clear p o; have P50 := P27; have O50 := O27; have K6_50 := K6_27; have K7_50 := K7_27; have RW50 := RW27; have HB50 := HB27; obtain ⟨⟨a0, a1, a2, a3, a4, a5, a6⟩, -⟩ := K7_50.out.seven)
          |(refine wpList_store_row rfl 39 (.tmp 6) (.tmp 122) rfl W.heap.size #[.int .i64 8, .int .i64 a, .int .i64 0, .string ⟨#[]⟩, .int .i64 0, .slice A6 ((l.snoc (.e 4 (place T sf) (n + 1) ⟨#[]⟩ 1 .nil .nil)).snoc rv.1).len c6, .slice none 0 0] rfl rfl 39 _ K6_50.out sizeE rfl (by simp [Value.oneCell']) ?_)
          |(refine wp_store_row 39 (.tmp 6) (.tmp 122) rfl W.heap.size #[.int .i64 8, .int .i64 a, .int .i64 0, .string ⟨#[]⟩, .int .i64 0, .slice A6 ((l.snoc (.e 4 (place T sf) (n + 1) ⟨#[]⟩ 1 .nil .nil)).snoc rv.1).len c6, .slice none 0 0] rfl rfl 39 _ K6_50.out sizeE rfl (by simp [Value.oneCell']) ?_))
         try simp only [Exit.inBlock, Exit.then]
         refine bodyPost_ret (res7 rfl _ _ W.heap.size _ _ _ _ _ _ _ rfl (blk_row K6_50.out)) rfl ?_
         have er := ER.out
         rw [er]
         have oo := only_row w50 W.heap.size #[.int .i64 8, .int .i64 a, .int .i64 0, .string ⟨#[]⟩, .int .i64 0, .slice A6 ((l.snoc (.e 4 (place T sf) (n + 1) ⟨#[]⟩ 1 .nil .nil)).snoc rv.1).len c6, .slice none 0 0]
         exact ⟨⟨_, _, _, _, _, _, _, rfl, _, _, rfl, (RW50.out.reads (fun k hk => hk)).imp (Rd.move (Moves.of_only oo (fun k hk _ e => by have hk : W.heap.size + 2 ≤ k := hk; omega) (fun k hk _ => by have hk : W.heap.size + 2 ≤ k := hk; show W.heap.size ≤ k; omega)) _).2.1, sl_nil _ _ _⟩, P50.out.only oo (fun i e => .inl (by have := G6.out; omega)), O50.out.row W.heap.size (.inr (Nat.le_refl _)) _, (by have h1 := HK.out; have h2 := IV.out; have h3 := HF.out; have h4 := HI.out; have h5 := HL.out; have h6 := HN.out; have h7 : (up rv.2).i = rv.2.i + 1 := rfl; skip; have h8 := take_i2 (T := T) ⟨#[125]⟩ rv.2; exact Nat.le_trans (show st.i ≤ rv.2.i by omega) h8)⟩
    ·rw [if_pos hs] at EM
     dsimp only at EM
     have hsb : (sf.code != 0) = true := by simpa using hs
     clear hs
     obtain ⟨rv, erv⟩ : ∃ rv, ex sf = rv := ⟨_, rfl⟩
     have EXV := Lib.hid (fun W1 (h1 : PS W1 g tg c T sf) => EX.out W1 _ h1)
     rw [erv] at EXV EM
     clear erv
     have OC := Lib.hid (fun W1 (h1 : PS W1 g tg c T rv.2) => opt_any h1 HGG.out ⟨#[44]⟩)
     have OS := Lib.hid (fun W1 (h1 : PS W1 g tg c T rv.2) => opt_any h1 HGG.out ⟨#[59]⟩)
     unfold PrM.opt at OC OS
     have EM := Lib.hid EM
     go_wp2_with (first
      |(go_at_call 36; (with_reducible refine (IS.out _ P0.out).mono ?_); rintro e w1 ⟨rfl, b⟩; have P1 := Lib.hid (P0.out.below b); have O1 := Lib.hid (O0.out.bel b); have K6_1 := Lib.hid (K6_0.out.below b K6_0.out.lt); have K7_1 := Lib.hid (K7_0.out.below b K7_0.out.lt); have RW1 := Lib.hid (RW0.out.below b); have HB1 := Lib.hid (Nat.le_trans HB0.out b.size); clear b; obtain ⟨⟨e0, e1, e2, e3, e4, e5, e6⟩, -⟩ := K7_1.out.seven)
      |(go_at_call 60; refine (FU.out _ P1.out).mono ?_; rintro e w2 ⟨rfl, p, o⟩; have P2 := Lib.hid p; have O2 := Lib.hid (O1.out.up o); have K6_2 := Lib.hid (K6_1.out.only o (by have := G6.out; omega)); have K7_2 := Lib.hid (K7_1.out.only o (by have := G7.out; omega)); have RW2 := Lib.hid (RW1.out.at_g o GB.out NQ.out); have HB2 := Lib.hid (Nat.le_trans HB1.out o.size); clear p o e0 e1 e2 e3 e4 e5 e6)
      |(go_at_call 34; (with_reducible refine (place_any P2.out).mono ?_); rintro e w3 ⟨rfl, sm⟩; have P3 := Lib.hid (P2.out.sm sm); have O3 := Lib.hid (O2.out.bel (sm.below _)); have K6_3 := Lib.hid (K6_2.out.below (sm.below _) K6_2.out.lt); have K7_3 := Lib.hid (K7_2.out.below (sm.below _) K7_2.out.lt); have RW3 := Lib.hid (RW2.out.below (sm.below _)); have HB3 := Lib.hid (Nat.le_trans HB2.out (sm.below 0).size); clear sm; have P4 := Lib.hid (P3.out.alloc (.cells #[.int .i64 0, .int .i64 (place T sf), .int .i64 0, .string ⟨#[]⟩, .int .i64 1, .slice none 0 0, .slice none 0 0] 39)); have O4 := Lib.hid (O3.out.alloc (.cells #[.int .i64 0, .int .i64 (place T sf), .int .i64 0, .string ⟨#[]⟩, .int .i64 1, .slice none 0 0, .slice none 0 0] 39)); have K6_4 := Lib.hid (blk_al (.cells #[.int .i64 0, .int .i64 (place T sf), .int .i64 0, .string ⟨#[]⟩, .int .i64 1, .slice none 0 0, .slice none 0 0] 39) K6_3.out); have K7_4 := Lib.hid (blk_al (.cells #[.int .i64 0, .int .i64 (place T sf), .int .i64 0, .string ⟨#[]⟩, .int .i64 1, .slice none 0 0, .slice none 0 0] 39) K7_3.out); have RW4 := Lib.hid (RW3.out.alloc (.cells #[.int .i64 0, .int .i64 (place T sf), .int .i64 0, .string ⟨#[]⟩, .int .i64 1, .slice none 0 0, .slice none 0 0] 39)); have KB4 := Lib.hid (Blk.new w3 #[.int .i64 0, .int .i64 (place T sf), .int .i64 0, .string ⟨#[]⟩, .int .i64 1, .slice none 0 0, .slice none 0 0] 39); have HB4 := Lib.hid (Nat.le_trans HB3.out (Nat.le_of_lt (al_lt w3 (.cells #[.int .i64 0, .int .i64 (place T sf), .int .i64 0, .string ⟨#[]⟩, .int .i64 1, .slice none 0 0, .slice none 0 0] 39)))); have ZO4 := Lib.hid ((Only.refl (fun b => b = g) w3).alloc (.cells #[.int .i64 0, .int .i64 (place T sf), .int .i64 0, .string ⟨#[]⟩, .int .i64 1, .slice none 0 0, .slice none 0 0] 39)); obtain ⟨⟨d0, d1, d2, d3⟩, -⟩ := P4.out.blk.four; have P20 := P4; have O20 := O4; have K6_20 := K6_4; have K7_20 := K7_4; have RW20 := RW4; have HB20 := HB4; have KB20 := KB4; have Rk_20 := Lib.hid (leaf_cells (w3.alloc (.cells #[.int .i64 0, .int .i64 (place T sf), .int .i64 0, .string ⟨#[]⟩, .int .i64 1, .slice none 0 0, .slice none 0 0] 39)) (fun k => QT W k ∧ (Value.slice A l.len cq).ownBlock ≠ some k) 0 (place T sf) 0 ⟨#[]⟩ 1))
      |(go_at_call 37; (with_reducible refine (EXV.out _ P20.out).mono ?_); rintro e w21 ⟨⟨u0, u1, u2, u3, u4, u5, u6, rfl, rd⟩, p, o, ii⟩; have P21 := Lib.hid p; have O21 := Lib.hid (O20.out.up o); have K6_21 := Lib.hid (K6_20.out.only o (by have := G6.out; omega)); have K7_21 := Lib.hid (K7_20.out.only o (by have := G7.out; omega)); have RW21 := Lib.hid (RW20.out.at_g o GB.out NQ.out); have HB21 := Lib.hid (Nat.le_trans HB20.out o.size); have KB21 := Lib.hid (KB20.out.only o (by have := HB3.out; have := GB.out; omega)); have Rk_21 := Lib.hid (mvQ NQE.out o Rk_20.out); have RV_21 := Lib.hid (OwnX.elem (w := w21) RW20.out (fun k hk => Nat.le_trans HB20.out hk) rd); have IV := Lib.hid ii; have NB := Lib.hid (Blk.new w21 Z7 39); clear p o rd ii)
      |(refine wpList_store_row rfl 39 (.tmp 10) (.tmp 104) rfl w21.heap.size #[u0, u1, u2, u3, u4, u5, u6] rfl rfl 39 _ NB.out sizeE rfl (ones7 (Rd.one_cells _ _ RV_21.out)) ?_; obtain ⟨w22, hw, bb, K10, ss⟩ := box7 w21 #[u0, u1, u2, u3, u4, u5, u6] Z7; rw [← hw]; clear hw NB; have P22 := Lib.hid (P21.out.only (Only.of_below (F := fun _ => False) bb.out) (fun _ f => f.elim)); have O22 := Lib.hid (O21.out.bel bb.out); have K6_22 := Lib.hid (K6_21.out.below bb.out K6_21.out.lt); have K7_22 := Lib.hid (K7_21.out.below bb.out K7_21.out.lt); have KB22 := Lib.hid (KB21.out.below bb.out KB21.out.lt); have RW22 := Lib.hid (RW21.out.below bb.out); have Rk_22 := Lib.hid (mv_below bb.out Rk_21.out); have RV_22 := Lib.hid (mv_below bb.out RV_21.out); have HB22 := Lib.hid (Nat.le_trans HB21.out bb.out.size); obtain ⟨⟨e0, e1, e2, e3, e4, e5, e6⟩, -⟩ := K7_22.out.seven; obtain ⟨⟨b0, b1, b2, b3, b4, b5, b6⟩, -⟩ := KB22.out.seven; obtain ⟨⟨c0, c1, c2, c3, c4, c5, c6⟩, -⟩ := K10.out.seven; have ZA := Lib.hid (RW22.out.alloc (.cells #[.int .i64 0, .int .i64 (place T sf), .int .i64 0, .string ⟨#[]⟩, .int .i64 1, .slice none 0 0, .slice none 0 0, u0, u1, u2, u3, u4, u5, u6] 39)).row; have KN := Lib.hid (Blk.new w22 #[.int .i64 0, .int .i64 (place T sf), .int .i64 0, .string ⟨#[]⟩, .int .i64 1, .slice none 0 0, .slice none 0 0, u0, u1, u2, u3, u4, u5, u6] 39); have SZ := Lib.hid (show W.heap.size + 2 ≤ (w22.alloc (.cells #[.int .i64 0, .int .i64 (place T sf), .int .i64 0, .string ⟨#[]⟩, .int .i64 1, .slice none 0 0, .slice none 0 0, u0, u1, u2, u3, u4, u5, u6] 39)).heap.size from Nat.le_trans HB22.out (Nat.le_of_lt (al_lt w22 _))); clear bb ss)
      |(at_builtin; refine wpList_append_two rfl (.tmp 106) (.tmp 109) rfl (W.heap.size + 2) (.slice A l.len cq) l.len ys ?_ ?_ w22.heap.size ?_ #[.int .i64 0, .int .i64 (place T sf), .int .i64 0, .string ⟨#[]⟩, .int .i64 1, .slice none 0 0, .slice none 0 0, u0, u1, u2, u3, u4, u5, u6] rfl ?_ ?_ ?_ ?_ ?_; rfl; exact ZA.out; rfl; exact KN.out; exact ones14 (Rd.one_cells _ _ Rk_22.out) (Rd.one_cells _ _ RV_22.out); omega; exact SZ.out; intro v6 w23 own6 g6 l6; have RW23 := Lib.hid (OwnX.pushed2 RW22.out Rk_22.out rfl RV_22.out rfl own6 g6 l6); have OG := Lib.hid (grown_only g6); have P23 := Lib.hid ((P22.out.alloc (.cells #[.int .i64 0, .int .i64 (place T sf), .int .i64 0, .string ⟨#[]⟩, .int .i64 1, .slice none 0 0, .slice none 0 0, u0, u1, u2, u3, u4, u5, u6] 39)).only OG.out (fun i e => .inl (Nat.lt_of_lt_of_le GB.out (RW22.out.row.lt i e).1))); have O23 := Lib.hid ((O22.out.alloc (.cells #[.int .i64 0, .int .i64 (place T sf), .int .i64 0, .string ⟨#[]⟩, .int .i64 1, .slice none 0 0, .slice none 0 0, u0, u1, u2, u3, u4, u5, u6] 39)).trans OG.out (fun i e => .inr (Nat.le_trans (Nat.le_add_right _ 2) (RW22.out.row.lt i e).1))); have K6_23 := Lib.hid ((blk_al (.cells #[.int .i64 0, .int .i64 (place T sf), .int .i64 0, .string ⟨#[]⟩, .int .i64 1, .slice none 0 0, .slice none 0 0, u0, u1, u2, u3, u4, u5, u6] 39) K6_22.out).only OG.out (fun e => by have := (RW22.out.row.lt _ e).1; omega)); have K7_23 := Lib.hid ((blk_al (.cells #[.int .i64 0, .int .i64 (place T sf), .int .i64 0, .string ⟨#[]⟩, .int .i64 1, .slice none 0 0, .slice none 0 0, u0, u1, u2, u3, u4, u5, u6] 39) K7_22.out).only OG.out (fun e => by have := (RW22.out.row.lt _ e).1; omega)); have HB23 := Lib.hid (Nat.le_trans SZ.out OG.out.size); clear own6 g6 l6 e0 e1 e2 e3 e4 e5 e6 b0 b1 b2 b3 b4 b5 b6 c0 c1 c2 c3 c4 c5 c6; obtain ⟨A6, c6, rfl, -⟩ := sl_shape2 (RW23.out.reads (fun k hk => hk)); obtain ⟨⟨e0, e1, e2, e3, e4, e5, e6⟩, f0, f1, f2, f3, f4, f5, f6⟩ := K7_23.out.seven; have ob := only_cell w23 (W.heap.size + 1) 5 (.slice A6 ((l.snoc (.e 0 (place T sf) 0 ⟨#[]⟩ 1 .nil .nil)).snoc rv.1).len c6); have P24 := Lib.hid (P23.out.only ob (fun i e => .inl (by have := G7.out; omega))); have O24 := Lib.hid (O23.out.setCell (p := ⟨W.heap.size + 1, 5, none⟩) (.inr (Nat.le_succ _)) (.slice A6 ((l.snoc (.e 0 (place T sf) 0 ⟨#[]⟩ 1 .nil .nil)).snoc rv.1).len c6)); have K6_24 := Lib.hid (K6_23.out.only ob (by omega)); have K7_24 := Lib.hid (blkE5 K7_23.out (.slice A6 ((l.snoc (.e 0 (place T sf) 0 ⟨#[]⟩ 1 .nil .nil)).snoc rv.1).len c6)); have RW24 := Lib.hid (RW23.out.only ob (fun k e => ⟨by omega, by unfold QT; omega⟩)); have HB24 := Lib.hid (Nat.le_trans HB23.out ob.size); clear ob))
     have EM := EM.out
     cases h44 : is T ⟨#[44]⟩ rv.2 with
     | true =>
      rw [h44, if_pos rfl] at OC EM
      have EM := Lib.hid EM
      clear h44 OS
      go_wp2_with (first
       |(go_at_call 35; (with_reducible refine (OC.out _ P24.out).mono ?_); rintro e w25 ⟨rfl, p, o⟩; have P25 := Lib.hid p; have O25 := Lib.hid (O24.out.up o); have K6_25 := Lib.hid (K6_24.out.only o (by have := G6.out; omega)); have K7_25 := Lib.hid (K7_24.out.only o (by have := G7.out; omega)); have RW25 := Lib.hid (RW24.out.at_g o GB.out NQ.out); have HB25 := Lib.hid (Nat.le_trans HB24.out o.size); clear p o))
      refine ⟨⟨k, up rv.2, ((l.snoc (.e 0 (place T sf) 0 ⟨#[]⟩ 1 .nil .nil)).snoc rv.1), n, _, _, rfl, P25.out, O25.out, K6_25.out, K7_25.out, RW25.out, HB25.out, EM.out, ?_, ?_, ?_, ?_, ?_⟩, ?_⟩
      ·intro _; have h1 := HK.out; have h2 := IV.out; have h3 := HF.out; have h4 := HI.out; have h5 := HL.out; have h6 := HN.out; have h7 : (up rv.2).i = rv.2.i + 1 := rfl; skip; omega
      ·have h1 := HK.out; have h2 := IV.out; have h3 := HF.out; have h4 := HI.out; have h5 := HL.out; have h6 := HN.out; have h7 : (up rv.2).i = rv.2.i + 1 := rfl; skip; omega
      ·rw [X.len_snoc, X.len_snoc]; have h1 := HK.out; have h2 := IV.out; have h3 := HF.out; have h4 := HI.out; have h5 := HL.out; have h6 := HN.out; have h7 : (up rv.2).i = rv.2.i + 1 := rfl; skip; omega
      ·omega
      ·have h1 := HK.out; have h2 := IV.out; have h3 := HF.out; have h4 := HI.out; have h5 := HL.out; have h6 := HN.out; have h7 : (up rv.2).i = rv.2.i + 1 := rfl; skip; omega
      ·rw [P25.out.mB, MB.out, if_pos HC.out]
       have h1 := HK.out; have h2 := IV.out; have h3 := HF.out; have h4 := HI.out; have h5 := HL.out; have h6 := HN.out; have h7 : (up rv.2).i = rv.2.i + 1 := rfl; skip
       have := P0.out.inb
       split <;> omega
     | false =>
      rw [h44, if_neg (by decide)] at OC EM
      cases h59 : is T ⟨#[59]⟩ rv.2 with
      | true =>
       rw [h59, if_pos rfl] at OS EM
       have EM := Lib.hid EM
       clear h44 h59
       go_wp2_with (first
        |(go_at_call 35; (with_reducible refine (OC.out _ P24.out).mono ?_); rintro e w25 ⟨rfl, p, o⟩; have P25 := Lib.hid p; have O25 := Lib.hid (O24.out.up o); have K6_25 := Lib.hid (K6_24.out.only o (by have := G6.out; omega)); have K7_25 := Lib.hid (K7_24.out.only o (by have := G7.out; omega)); have RW25 := Lib.hid (RW24.out.at_g o GB.out NQ.out); have HB25 := Lib.hid (Nat.le_trans HB24.out o.size); clear p o)
        |(go_at_call 35; (with_reducible refine (OS.out _ P25.out).mono ?_); rintro e w26 ⟨rfl, p, o⟩; have P26 := Lib.hid p; have O26 := Lib.hid (O25.out.up o); have K6_26 := Lib.hid (K6_25.out.only o (by have := G6.out; omega)); have K7_26 := Lib.hid (K7_25.out.only o (by have := G7.out; omega)); have RW26 := Lib.hid (RW25.out.at_g o GB.out NQ.out); have HB26 := Lib.hid (Nat.le_trans HB25.out o.size); clear p o))
       refine ⟨⟨k, up rv.2, ((l.snoc (.e 0 (place T sf) 0 ⟨#[]⟩ 1 .nil .nil)).snoc rv.1), n, _, _, rfl, P26.out, O26.out, K6_26.out, K7_26.out, RW26.out, HB26.out, EM.out, ?_, ?_, ?_, ?_, ?_⟩, ?_⟩
       ·intro _; have h1 := HK.out; have h2 := IV.out; have h3 := HF.out; have h4 := HI.out; have h5 := HL.out; have h6 := HN.out; have h7 : (up rv.2).i = rv.2.i + 1 := rfl; skip; omega
       ·have h1 := HK.out; have h2 := IV.out; have h3 := HF.out; have h4 := HI.out; have h5 := HL.out; have h6 := HN.out; have h7 : (up rv.2).i = rv.2.i + 1 := rfl; skip; omega
       ·rw [X.len_snoc, X.len_snoc]; have h1 := HK.out; have h2 := IV.out; have h3 := HF.out; have h4 := HI.out; have h5 := HL.out; have h6 := HN.out; have h7 : (up rv.2).i = rv.2.i + 1 := rfl; skip; omega
       ·omega
       ·have h1 := HK.out; have h2 := IV.out; have h3 := HF.out; have h4 := HI.out; have h5 := HL.out; have h6 := HN.out; have h7 : (up rv.2).i = rv.2.i + 1 := rfl; skip; omega
       ·rw [P26.out.mB, MB.out, if_pos HC.out]
        have h1 := HK.out; have h2 := IV.out; have h3 := HF.out; have h4 := HI.out; have h5 := HL.out; have h6 := HN.out; have h7 : (up rv.2).i = rv.2.i + 1 := rfl; skip
        have := P0.out.inb
        split <;> omega
      | false =>
       rw [h59, if_neg (by decide)] at OS EM
       have ER := Lib.hid EM.symm
       clear h44 h59 EM
       go_wp2_with (first
        |(go_at_call 35; (with_reducible refine (OC.out _ P24.out).mono ?_); rintro e w25 ⟨rfl, p, o⟩; have P25 := Lib.hid p; have O25 := Lib.hid (O24.out.up o); have K6_25 := Lib.hid (K6_24.out.only o (by have := G6.out; omega)); have K7_25 := Lib.hid (K7_24.out.only o (by have := G7.out; omega)); have RW25 := Lib.hid (RW24.out.at_g o GB.out NQ.out); have HB25 := Lib.hid (Nat.le_trans HB24.out o.size); clear p o)
        |(go_at_call 35; (with_reducible refine (OS.out _ P25.out).mono ?_); rintro e w26 ⟨rfl, p, o⟩; have P26 := Lib.hid p; have O26 := Lib.hid (O25.out.up o); have K6_26 := Lib.hid (K6_25.out.only o (by have := G6.out; omega)); have K7_26 := Lib.hid (K7_25.out.only o (by have := G7.out; omega)); have RW26 := Lib.hid (RW25.out.at_g o GB.out NQ.out); have HB26 := Lib.hid (Nat.le_trans HB25.out o.size); clear p o)
        |(go_at_call 51; (with_reducible refine (take_any P26.out HGG.out ⟨#[125]⟩).mono ?_); rintro e w50 ⟨rfl, p, o⟩; have P27 := Lib.hid p; have O27 := Lib.hid (O26.out.up o); have K6_27 := Lib.hid (K6_26.out.only o (by have := G6.out; omega)); have K7_27 := Lib.hid (K7_26.out.only o (by have := G7.out; omega)); have RW27 := Lib.hid (RW26.out.at_g o GB.out NQ.out); have HB27 := Lib.hid (Nat.le_trans HB26.out o.size); clear p o; have P50 := P27; have O50 := O27; have K6_50 := K6_27; have K7_50 := K7_27; have RW50 := RW27; have HB50 := HB27; obtain ⟨⟨a0, a1, a2, a3, a4, a5, a6⟩, -⟩ := K7_50.out.seven)
        |(refine wpList_store_row rfl 39 (.tmp 6) (.tmp 122) rfl W.heap.size #[.int .i64 8, .int .i64 a, .int .i64 0, .string ⟨#[]⟩, .int .i64 0, .slice A6 ((l.snoc (.e 0 (place T sf) 0 ⟨#[]⟩ 1 .nil .nil)).snoc rv.1).len c6, .slice none 0 0] rfl rfl 39 _ K6_50.out sizeE rfl (by simp [Value.oneCell']) ?_)
        |(refine wp_store_row 39 (.tmp 6) (.tmp 122) rfl W.heap.size #[.int .i64 8, .int .i64 a, .int .i64 0, .string ⟨#[]⟩, .int .i64 0, .slice A6 ((l.snoc (.e 0 (place T sf) 0 ⟨#[]⟩ 1 .nil .nil)).snoc rv.1).len c6, .slice none 0 0] rfl rfl 39 _ K6_50.out sizeE rfl (by simp [Value.oneCell']) ?_))
       try simp only [Exit.inBlock, Exit.then]
       refine bodyPost_ret (res7 rfl _ _ W.heap.size _ _ _ _ _ _ _ rfl (blk_row K6_50.out)) rfl ?_
       have er := ER.out
       rw [er]
       have oo := only_row w50 W.heap.size #[.int .i64 8, .int .i64 a, .int .i64 0, .string ⟨#[]⟩, .int .i64 0, .slice A6 ((l.snoc (.e 0 (place T sf) 0 ⟨#[]⟩ 1 .nil .nil)).snoc rv.1).len c6, .slice none 0 0]
       exact ⟨⟨_, _, _, _, _, _, _, rfl, _, _, rfl, (RW50.out.reads (fun k hk => hk)).imp (Rd.move (Moves.of_only oo (fun k hk _ e => by have hk : W.heap.size + 2 ≤ k := hk; omega) (fun k hk _ => by have hk : W.heap.size + 2 ≤ k := hk; show W.heap.size ≤ k; omega)) _).2.1, sl_nil _ _ _⟩, P50.out.only oo (fun i e => .inl (by have := G6.out; omega)), O50.out.row W.heap.size (.inr (Nat.le_refl _)) _, (by have h1 := HK.out; have h2 := IV.out; have h3 := HF.out; have h4 := HI.out; have h5 := HL.out; have h6 := HN.out; have h7 : (up rv.2).i = rv.2.i + 1 := rfl; skip; have h8 := take_i2 (T := T) ⟨#[125]⟩ rv.2; exact Nat.le_trans (show st.i ≤ rv.2.i by omega) h8)⟩
  ·have hcb : (s1.code == 0) = false := by simpa using hc
   have ER : Hid (R = (l, s1)) := Lib.hid (by
    rw [← hM]
    cases k with
    | zero => rfl
    | succ k => unfold PrM.tableL; rw [if_neg (fun q => hc q.1)])
   clear p0 ow k6 k7 row hbs hM hk hi hl hn1 hc HM
   go_wp2_with (first
    |(go_at_call 51; (with_reducible refine (take_any P0.out HGG.out ⟨#[125]⟩).mono ?_); rintro e w50 ⟨rfl, p, o⟩; have P1 := Lib.hid p; have O1 := Lib.hid (O0.out.up o); have K6_1 := Lib.hid (K6_0.out.only o (by have := G6.out; omega)); have K7_1 := Lib.hid (K7_0.out.only o (by have := G7.out; omega)); have RW1 := Lib.hid (RW0.out.at_g o GB.out NQ.out); have HB1 := Lib.hid (Nat.le_trans HB0.out o.size); clear p o; have P50 := P1; have O50 := O1; have K6_50 := K6_1; have K7_50 := K7_1; have RW50 := RW1; have HB50 := HB1; obtain ⟨⟨a0, a1, a2, a3, a4, a5, a6⟩, -⟩ := K7_50.out.seven)
    |(refine wpList_store_row rfl 39 (.tmp 6) (.tmp 122) rfl W.heap.size #[.int .i64 8, .int .i64 a, .int .i64 0, .string ⟨#[]⟩, .int .i64 0, .slice A l.len cq, .slice none 0 0] rfl rfl 39 _ K6_50.out sizeE rfl (by simp [Value.oneCell']) ?_)
    |(refine wp_store_row 39 (.tmp 6) (.tmp 122) rfl W.heap.size #[.int .i64 8, .int .i64 a, .int .i64 0, .string ⟨#[]⟩, .int .i64 0, .slice A l.len cq, .slice none 0 0] rfl rfl 39 _ K6_50.out sizeE rfl (by simp [Value.oneCell']) ?_))
   try simp only [Exit.inBlock, Exit.then]
   refine bodyPost_ret (res7 rfl _ _ W.heap.size _ _ _ _ _ _ _ rfl (blk_row K6_50.out)) rfl ?_
   have er := ER.out
   rw [er]
   have oo := only_row w50 W.heap.size #[.int .i64 8, .int .i64 a, .int .i64 0, .string ⟨#[]⟩, .int .i64 0, .slice A l.len cq, .slice none 0 0]
   exact ⟨⟨_, _, _, _, _, _, _, rfl, _, _, rfl, (RW50.out.reads (fun k hk => hk)).imp (Rd.move (Moves.of_only oo (fun k hk _ e => by have hk : W.heap.size + 2 ≤ k := hk; omega) (fun k hk _ => by have hk : W.heap.size + 2 ≤ k := hk; show W.heap.size ≤ k; omega)) _).2.1, sl_nil _ _ _⟩, P50.out.only oo (fun i e => .inl (by have := G6.out; omega)), O50.out.row W.heap.size (.inr (Nat.le_refl _)) _, Nat.le_trans HI.out (take_i2 _ _)⟩
end
end Go.Proofs.Yteakhlnnepjhpaa
