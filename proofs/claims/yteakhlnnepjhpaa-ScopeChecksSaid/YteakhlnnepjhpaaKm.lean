/- Texts of one proof behind one another: PrF, PrC, PrX, PrX1. -/
import Derived.Test.YteakhlnnepjhpaaKh
import Derived.Test.YteakhlnnepjhpaaKk
import Derived.Deep.RegionLaw
import Derived.Test.YteakhlnnepjhpaaKc
/- The document's parser: a function with parameters; any function (printed by genpr10.py). -/
namespace Go.Proofs.Yteakhlnnepjhpaa
open Go.RowKit PrM
set_option linter.unusedVariables false
set_option linter.unusedSimpArgs false
theorem infoS1 : (Try.prog.info? 9).map (fun i => (i.zero, i.size, i.bytes)) = some (some (.string ⟨#[]⟩), 1, 16) := by kernel_rfl
/-- append of one text as a step of a drawn region. -/
theorem step_append_str {w : World} {ops : Array Oper} {o : Oper} {a : Act} {K : Act → World → Prop} {Q : Exit → Act → World → Prop} {E : Prop} (hgd : o.guard = none) (s x : Operand)
  (ho : o.op = .call { callee := .builtin .append, args := #[s, x], argTypes := #[33, 33] })
  (base : Nat) (v : Value) (l : List ByteArray) (hs : a.eval s = v) (hown : w.ownsRow base 9 1 v l.length (l.map Value.string))
  (b : Nat) (hx : a.eval x = .slice (some ⟨b, 0, none⟩) 1 1) (c : ByteArray) (hu : w.cell? ⟨b, 0, none⟩ = some (.string c)) (hlen : l.length ≤ 100000) (hb : base ≤ w.heap.size)
  (h : ∀ v' w', w'.ownsRow base 9 1 v' (l ++ [c]).length ((l ++ [c]).map Value.string) → w.grownBy w' v.ownBlock → (v'.ownBlock = v.ownBlock ∨ v'.ownBlock = some w.heap.size) → K (a.put o.dst v') w') :
  if Region.wanted o (yielded ops a.tmps) = true then Oper.wp Try.prog o a w K Q else E := by
 have hw : Region.wanted o (yielded ops a.tmps) = true := by simp [Region.wanted, hgd]
 rw [if_pos hw]
 obtain ⟨i, hi, hz, k1, k2⟩ := info_parts infoS1
 obtain ⟨v', w', hrun, h2, h3, _, h5⟩ := run_append_own_at (P := Try.prog) w base 33 o.type 9 i _ 1 16 Try.underlying33 hi hz k1 k2 rfl (by decide) v l.length (l.map Value.string) hown ⟨b, 0, none⟩ 1 1 [.string c] rfl (fun j y hy => by
  match j with
  | 0 => simp at hy; subst hy; simpa [Addr.add] using hu
  | j + 1 => simp at hy) (by intro y hy; simp at hy; subst hy; rfl) (by unfold maxLen; omega) (by omega) hb
 unfold Oper.wp
 simp [execOp, ho, resolve, invoke, builtin, hs, hx, hrun, Result.andThen]
 exact h v' w' (by simpa using h2) h3 h5
section
variable {F g tg c : Nat} {T : List LxM.T}
set_option maxRecDepth 20000 in
set_option maxHeartbeats 16000000 in
/-- With parameters. -/
theorem body_some (hG : PrM.Good T) (hF : OkF g tg c T F) (W : World) (st : St) (d : Nat) (h : PS W g tg c T st) (hd : d ≤ 100) (hm : 100 * (101 - d) + 5 ≤ F + 1) (hb : is T ⟨#[41]⟩ (PrM.take T ⟨#[40]⟩ st) = false) : Calls Try.prog 50 #[ptr g, .int .i64 (d : Int)] W (RF W g tg c T st ((fs T (F + 1)).body d st)) := by
 have BL := Lib.hid (fun W1 st1 (h1 : PS W1 g tg c T st1) => hF.block W1 st1 d h1 hd (by omega))
 have e1 : (fs T (F + 1)).body (d : Int) st = bodyS T (fs T F) d st := rfl
 rw [e1]
 unfold PrM.bodyS
 have HGG := Lib.hid hG
 have HG := Lib.hid h.blk.lt
 have P0 := Lib.hid ((h.alloc (.cells Z2 36)).alloc (.cells Z2 36))
 have O0 := Lib.hid (((Only.refl (fun b => b = g) W).alloc (.cells Z2 36)).alloc (.cells Z2 36))
 have HB0 : Hid (W.heap.size + 2 ≤ ((W.alloc (.cells Z2 36)).alloc (.cells Z2 36)).heap.size) := Lib.hid (by rw [World.size_alloc, World.size_alloc]; omega)
 have HS2 : Hid (((W.alloc (.cells Z2 36)).alloc (.cells Z2 36)).heap.size = W.heap.size + 2) := Lib.hid (by rw [World.size_alloc, World.size_alloc])
 have HW0 : Hid (g < ((W.alloc (.cells Z2 36)).alloc (.cells Z2 36)).heap.size) := Lib.hid (by have := HS2.out; have := HG.out; omega)
 have K5_0 : Hid (Blk ((W.alloc (.cells Z2 36)).alloc (.cells Z2 36)) (W.heap.size + 1) Z2 36) := Lib.hid (by have k := Blk.new (W.alloc (.cells Z2 36)) Z2 36; rwa [World.size_alloc] at k)
 have K4_0 : Hid (Blk ((W.alloc (.cells Z2 36)).alloc (.cells Z2 36)) W.heap.size Z2 36) := Lib.hid ((Blk.new W Z2 36).keep ((Below.refl _ _).alloc (Nat.le_refl _) _))
 have TL := Lib.hid (fun W1 (h1 : PS W1 g tg c T st) => take_any h1 HGG.out ⟨#[40]⟩)
 have TR := Lib.hid (fun W1 st1 (h1 : PS W1 g tg c T st1) => take_any h1 HGG.out ⟨#[41]⟩)
 have TE := Lib.hid (fun W1 st1 (h1 : PS W1 g tg c T st1) => take_any h1 HGG.out ⟨#[101, 110, 100]⟩)
 have i0 : (0 : Int) ≤ (d : Int) := by omega
 have i1 : (d : Int) ≤ 100 := by omega
 have HI := Lib.hid (take_i0 (T := T) ⟨#[40]⟩ st)
 generalize PrM.take T ⟨#[40]⟩ st = sa at *
 have OP := Lib.hid (fun W1 (h1 : PS W1 g tg c T sa) => opt_any h1 HGG.out ⟨#[41]⟩)
 unfold PrM.opt at OP
 rw [hb, if_neg (show ¬ (false = true) from nofun)] at OP
 dsimp only
 rw [hb, if_neg (show ¬ (false = true) from nofun)]
 obtain ⟨R, eR⟩ : ∃ R, paramsL T T.length [] sa = R := ⟨_, rfl⟩
 rw [eR]
 have HR := Lib.hid eR
 generalize hbl : (fs T F).block (d : Int) = bl at *
 clear h hF hm e1 hd hG hb eR
 go_enter Try.func50, Try.ntmps50
 go_wp2_with (first
  |(go_at_call 51; (with_reducible refine (TL.out _ P0.out).mono ?_); rintro e w1 ⟨rfl, p, o⟩; have P1 := Lib.hid p; have O1 := Lib.hid (O0.out.up o); have HB1 := Lib.hid (Nat.le_trans HB0.out o.size); have K5_1 := Lib.hid (K5_0.out.only o (by have := HG.out; omega)); have K4_1 := Lib.hid (K4_0.out.only o (by have := HG.out; omega)); clear p o)
  |(go_at_call 35; (with_reducible refine (OP.out _ P1.out).mono ?_); rintro e w2 ⟨rfl, p, o⟩; have P2 := Lib.hid p; have O2 := Lib.hid (O1.out.up o); have HB2 := Lib.hid (Nat.le_trans HB1.out o.size); have K5_2 := Lib.hid (K5_1.out.only o (by have := HG.out; omega)); have K4_2 := Lib.hid (K4_1.out.only o (by have := HG.out; omega)); clear p o))
 try simp only [Act.put]
 go_loopw [] (fun wr => ∃ (k : Nat) (s1 : St) (ps : List ByteArray) (vp : Value), PS wr g tg c T s1 ∧ Only (fun b => b = g) W wr ∧ Blk wr (W.heap.size + 1) #[vp, .slice none 0 0] 36 ∧ Blk wr W.heap.size Z2 36 ∧ wr.ownsRow (W.heap.size + 2) 9 1 vp ps.length (ps.map Value.string) ∧ W.heap.size + 2 ≤ wr.heap.size ∧ paramsL T k ps s1 = R ∧ (s1.code = 0 → T.length ≤ k + s1.i) ∧ sa.i ≤ s1.i ∧ ps.length ≤ s1.i) (fun wr => mB T.length g wr)
 case atStart => exact ⟨T.length, _, [], _, P2.out, O2.out, K5_2.out, K4_2.out, ⟨rfl, .inl ⟨rfl, rfl⟩⟩, HB2.out, HR.out, fun _ => Nat.le_add_right _ _, Nat.le_refl _, Nat.zero_le _⟩
 case round =>
  obtain ⟨k, s1, ps, vp, p0, ow, k5, k4, row, hbs, hM, hk, hi, hl⟩ := hrel
  clear P0 O0 K5_0 K4_0 HB0 P1 O1 K5_1 K4_1 HB1 P2 O2 K5_2 K4_2 HB2 HR TL OP
  obtain ⟨A, cq, rfl, -⟩ := strs_own (P := fun _ => True) row (fun _ _ => trivial)
  have P3 := Lib.hid p0
  have O3 := Lib.hid ow
  have K5_3 := Lib.hid k5
  have K4_3 := Lib.hid k4
  have RW3 := Lib.hid row
  have HB3 := Lib.hid hbs
  have HM := Lib.hid hM
  have HII := Lib.hid hi
  have HL := Lib.hid hl
  have MB := Lib.hid (p0.mB (N := T.length))
  obtain ⟨⟨d0, d1, d2, d3⟩, -⟩ := P3.out.blk.four
  by_cases hc : s1.code = 0
  ·rw [hc] at d2
   have hk := hk hc
   have inb := P3.out.inb
   obtain ⟨k, rfl⟩ : ∃ q, k = q + 1 := ⟨k - 1, by omega⟩
   have EM := hM
   unfold PrM.paramsL at EM
   rw [if_pos hc] at EM
   have l1 : (0 : Int) ≤ (ps.length : Int) := by omega
   have l2 : (ps.length : Int) ≤ 100000 := by have := P3.out.small; omega
   have HL2 := Lib.hid (show ps.length ≤ 100000 by omega)
   have FU := Lib.hid (fun W1 (h1 : PS W1 g tg c T s1) => full_any h1 (ps.length : Int) 16)
   have HF := Lib.hid (full_i (T := T) (ps.length : Int) 16 s1)
   generalize full T (ps.length : Int) 16 s1 = sf at *
   have NA := Lib.hid (fun W1 (h1 : PS W1 g tg c T sf) => name_any h1 HGG.out)
   have HNI := Lib.hid (name_i (T := T) sf)
   dsimp only at EM
   generalize nameT T sf = nm at *
   generalize nameS T sf = sn at *
   have OC := Lib.hid (fun W1 (h1 : PS W1 g tg c T sn) => opt_any h1 HGG.out ⟨#[44]⟩)
   unfold PrM.opt at OC
   have HK := Lib.hid hk
   have HC := Lib.hid hc
   clear p0 ow k5 k4 row hbs hM hk hi hl inb hc HM
   obtain ⟨⟨e0, e1⟩, fe0, fe1⟩ := K5_3.out.pair
   have mixed : Try.prog.follows .mixedOrders = true := by kernel_rfl
   cases hm : is T ⟨#[44]⟩ sn with
   | true =>
    rw [hm, if_pos rfl] at OC EM
    have EM := Lib.hid EM
    clear hm
    go_wp2_with (first
     |(go_at_call 60; (with_reducible refine (FU.out _ P3.out).mono ?_); rintro e w4 ⟨rfl, p, o⟩; have P4 := Lib.hid p; have O4 := Lib.hid (O3.out.up o); have HB4 := Lib.hid (Nat.le_trans HB3.out o.size); have K5_4 := Lib.hid (K5_3.out.only o (by have := HG.out; omega)); have K4_4 := Lib.hid (K4_3.out.only o (by have := HG.out; omega)); have RW4 := Lib.hid (ownsRow_only RW3.out o (fun k e => by have := HG.out; omega)); clear p o d0 d1 d2 d3 e0 e1 fe0 fe1; obtain ⟨⟨e0, e1⟩, fe0, fe1⟩ := K5_4.out.pair))
    have PD := Lib.hid (P4.out.sm (Sm.drewn w4))
    have ED0 : w4.drew.cell? ⟨W.heap.size + 1, 0, none⟩ = some (.slice A ps.length cq) := e0
    go_region_law (first | (refine step_append_str rfl (.tmp 22) (.tmp 25) rfl (W.heap.size + 2) (.slice A ps.length cq) ps ?_ ?_ w5.heap.size ?_ nm ?_ ?_ ?_ ?_; rfl; exact ZA.out; rfl; exact CN.out; exact HL2.out; exact SZ.out; intro v6 w6 own6 g6 l6; obtain ⟨A6, c6, rfl, -⟩ := strs_own (P := fun _ => True) own6 (fun _ _ => trivial); have RW6 := Lib.hid own6; have OG := Lib.hid (grown_only g6); have K5_6 := Lib.hid ((K5_5.out.keep (al_below w5 (.cells #[.string nm] 9))).only OG.out (fun e => by have := (RW5.out.lt _ e).1; omega)); obtain ⟨⟨y0, y1⟩, fy0, fy1⟩ := K5_6.out.pair) | (go_simp; go_at_call 49; (with_reducible refine (NA.out _ PD.out).mono ?_); rintro e w5 ⟨rfl, p, o⟩; have o : Only (fun b => b = g) w4 w5 := ⟨o.os, o.tape, o.output, o.size, o.block⟩; have P5 := Lib.hid p; have O5 := Lib.hid (O4.out.up o); have HB5 := Lib.hid (Nat.le_trans HB4.out o.size); have K5_5 := Lib.hid (K5_4.out.only o (by have := HG.out; omega)); have K4_5 := Lib.hid (K4_4.out.only o (by have := HG.out; omega)); have RW5 := Lib.hid (ownsRow_only RW4.out o (fun k e => by have := HG.out; omega)); clear p o; obtain ⟨⟨x0, x1⟩, fx0, fx1⟩ := K5_5.out.pair; have xa0 := keep_al (.cells #[.string nm] 9) x0; have ZA := Lib.hid (ownsRow_only RW5.out (Only.of_below (F := fun _ => False) ((Below.refl _ w5).alloc (Nat.le_refl _) (.cells #[.string nm] 9))) (fun _ f => f.elim)); have CN := Lib.hid (show (w5.alloc (.cells #[.string nm] 9)).cell? ⟨w5.heap.size, 0, none⟩ = some (.string nm) by unfold World.cell?; rw [show (w5.alloc (.cells #[.string nm] 9)).heap[w5.heap.size]? = _ from Blk.new w5 #[.string nm] 9]; rfl); have SZ := Lib.hid (show W.heap.size + 2 ≤ (w5.alloc (.cells #[.string nm] 9)).heap.size from Nat.le_trans HB5.out (Nat.le_of_lt (al_lt w5 _)))))
    all_goals
     have el : (ps ++ [nm]).length = ps.length + 1 := by simp
     have RW6 : Hid (w6.ownsRow (W.heap.size + 2) 9 1 (.slice A6 (ps.length + 1) c6) (ps ++ [nm]).length ((ps ++ [nm]).map Value.string)) := Lib.hid (by have h := RW6.out; rwa [show (Value.slice A6 (ps ++ [nm]).length c6) = (.slice A6 (ps.length + 1) c6) by rw [el]] at h)
     have P6 := Lib.hid ((P5.out.alloc (.cells #[.string nm] 9)).only OG.out (fun i e => .inl (by have := (RW5.out.lt _ e).1; have := HG.out; omega)))
     have O6 := Lib.hid ((O5.out.alloc (.cells #[.string nm] 9)).trans OG.out (fun i e => .inr (by have := (RW5.out.lt _ e).1; omega)))
     have K4_6 := Lib.hid ((K4_5.out.keep (al_below w5 (.cells #[.string nm] 9))).only OG.out (fun e => by have := (RW5.out.lt _ e).1; omega))
     have HB6 := Lib.hid (Nat.le_trans SZ.out OG.out.size)
     have ob := Lib.hid (only_at w6 (W.heap.size + 1) 0 (.slice A6 (ps.length + 1) c6))
     have P7 := Lib.hid (P6.out.only ob.out (fun i e => .inl (by have := HG.out; omega)))
     have O7 := Lib.hid (O6.out.trans ob.out (fun i e => .inr (by omega)))
     have K5_7 := Lib.hid (blkP0 K5_6.out (.slice A6 (ps.length + 1) c6))
     have K4_7 := Lib.hid (K4_6.out.only ob.out (by omega))
     have RW7 := Lib.hid (ownsRow_only RW6.out ob.out (fun k e => by omega))
     have HB7 := Lib.hid (Nat.le_trans HB6.out ob.out.size)
     generalize w6.setCell ⟨W.heap.size + 1, 0, none⟩ (.slice A6 (ps.length + 1) c6) = w7 at *
     clear P6 O6 K4_6 HB6 ob y0 y1 fy0 fy1 K5_6 OG RW6 l6 g6 own6 ZA CN SZ x0 x1 fx0 fx1 xa0
     go_wp2_with (first
      |(go_at_call 35; (with_reducible refine (OC.out _ P7.out).mono ?_); rintro e w8 ⟨rfl, p, o⟩; have P8 := Lib.hid p; have O8 := Lib.hid (O7.out.up o); have HB8 := Lib.hid (Nat.le_trans HB7.out o.size); have K5_8 := Lib.hid (K5_7.out.only o (by have := HG.out; omega)); have K4_8 := Lib.hid (K4_7.out.only o (by have := HG.out; omega)); have RW8 := Lib.hid (ownsRow_only RW7.out o (fun k e => by have := HG.out; omega)); clear p o))
     refine ⟨⟨k, up sn, ps ++ [nm], _, P8.out, O8.out, K5_8.out, K4_8.out, RW8.out, HB8.out, EM.out, fun _ => by have h1 := HK.out; have h2 := HF.out; have h3 := HNI.out; have h4 := HII.out; have h5 := HL.out; have h6 : (up sn).i = sn.i + 1 := rfl; omega, by have h1 := HK.out; have h2 := HF.out; have h3 := HNI.out; have h4 := HII.out; have h5 := HL.out; have h6 : (up sn).i = sn.i + 1 := rfl; omega, by have h1 := HK.out; have h2 := HF.out; have h3 := HNI.out; have h4 := HII.out; have h5 := HL.out; have h6 : (up sn).i = sn.i + 1 := rfl; rw [el]; omega⟩, ?_⟩
     rw [P8.out.mB, MB.out, if_pos HC.out]
     have h1 := HK.out; have h2 := HF.out; have h3 := HNI.out; have h4 := HII.out; have h5 := HL.out; have h6 : (up sn).i = sn.i + 1 := rfl; have := P3.out.inb
     split <;> omega
   | false =>
    rw [hm, if_neg (show ¬ (false = true) from nofun)] at OC EM
    have ER := Lib.hid EM.symm
    clear hm EM
    go_wp2_with (first
     |(go_at_call 60; (with_reducible refine (FU.out _ P3.out).mono ?_); rintro e w4 ⟨rfl, p, o⟩; have P4 := Lib.hid p; have O4 := Lib.hid (O3.out.up o); have HB4 := Lib.hid (Nat.le_trans HB3.out o.size); have K5_4 := Lib.hid (K5_3.out.only o (by have := HG.out; omega)); have K4_4 := Lib.hid (K4_3.out.only o (by have := HG.out; omega)); have RW4 := Lib.hid (ownsRow_only RW3.out o (fun k e => by have := HG.out; omega)); clear p o d0 d1 d2 d3 e0 e1 fe0 fe1; obtain ⟨⟨e0, e1⟩, fe0, fe1⟩ := K5_4.out.pair))
    have PD := Lib.hid (P4.out.sm (Sm.drewn w4))
    have ED0 : w4.drew.cell? ⟨W.heap.size + 1, 0, none⟩ = some (.slice A ps.length cq) := e0
    go_region_law (first | (refine step_append_str rfl (.tmp 22) (.tmp 25) rfl (W.heap.size + 2) (.slice A ps.length cq) ps ?_ ?_ w5.heap.size ?_ nm ?_ ?_ ?_ ?_; rfl; exact ZA.out; rfl; exact CN.out; exact HL2.out; exact SZ.out; intro v6 w6 own6 g6 l6; obtain ⟨A6, c6, rfl, -⟩ := strs_own (P := fun _ => True) own6 (fun _ _ => trivial); have RW6 := Lib.hid own6; have OG := Lib.hid (grown_only g6); have K5_6 := Lib.hid ((K5_5.out.keep (al_below w5 (.cells #[.string nm] 9))).only OG.out (fun e => by have := (RW5.out.lt _ e).1; omega)); obtain ⟨⟨y0, y1⟩, fy0, fy1⟩ := K5_6.out.pair) | (go_simp; go_at_call 49; (with_reducible refine (NA.out _ PD.out).mono ?_); rintro e w5 ⟨rfl, p, o⟩; have o : Only (fun b => b = g) w4 w5 := ⟨o.os, o.tape, o.output, o.size, o.block⟩; have P5 := Lib.hid p; have O5 := Lib.hid (O4.out.up o); have HB5 := Lib.hid (Nat.le_trans HB4.out o.size); have K5_5 := Lib.hid (K5_4.out.only o (by have := HG.out; omega)); have K4_5 := Lib.hid (K4_4.out.only o (by have := HG.out; omega)); have RW5 := Lib.hid (ownsRow_only RW4.out o (fun k e => by have := HG.out; omega)); clear p o; obtain ⟨⟨x0, x1⟩, fx0, fx1⟩ := K5_5.out.pair; have xa0 := keep_al (.cells #[.string nm] 9) x0; have ZA := Lib.hid (ownsRow_only RW5.out (Only.of_below (F := fun _ => False) ((Below.refl _ w5).alloc (Nat.le_refl _) (.cells #[.string nm] 9))) (fun _ f => f.elim)); have CN := Lib.hid (show (w5.alloc (.cells #[.string nm] 9)).cell? ⟨w5.heap.size, 0, none⟩ = some (.string nm) by unfold World.cell?; rw [show (w5.alloc (.cells #[.string nm] 9)).heap[w5.heap.size]? = _ from Blk.new w5 #[.string nm] 9]; rfl); have SZ := Lib.hid (show W.heap.size + 2 ≤ (w5.alloc (.cells #[.string nm] 9)).heap.size from Nat.le_trans HB5.out (Nat.le_of_lt (al_lt w5 _)))))
    all_goals
     have el : (ps ++ [nm]).length = ps.length + 1 := by simp
     have RW6 : Hid (w6.ownsRow (W.heap.size + 2) 9 1 (.slice A6 (ps.length + 1) c6) (ps ++ [nm]).length ((ps ++ [nm]).map Value.string)) := Lib.hid (by have h := RW6.out; rwa [show (Value.slice A6 (ps ++ [nm]).length c6) = (.slice A6 (ps.length + 1) c6) by rw [el]] at h)
     have P6 := Lib.hid ((P5.out.alloc (.cells #[.string nm] 9)).only OG.out (fun i e => .inl (by have := (RW5.out.lt _ e).1; have := HG.out; omega)))
     have O6 := Lib.hid ((O5.out.alloc (.cells #[.string nm] 9)).trans OG.out (fun i e => .inr (by have := (RW5.out.lt _ e).1; omega)))
     have K4_6 := Lib.hid ((K4_5.out.keep (al_below w5 (.cells #[.string nm] 9))).only OG.out (fun e => by have := (RW5.out.lt _ e).1; omega))
     have HB6 := Lib.hid (Nat.le_trans SZ.out OG.out.size)
     have ob := Lib.hid (only_at w6 (W.heap.size + 1) 0 (.slice A6 (ps.length + 1) c6))
     have P7 := Lib.hid (P6.out.only ob.out (fun i e => .inl (by have := HG.out; omega)))
     have O7 := Lib.hid (O6.out.trans ob.out (fun i e => .inr (by omega)))
     have K5_7 := Lib.hid (blkP0 K5_6.out (.slice A6 (ps.length + 1) c6))
     have K4_7 := Lib.hid (K4_6.out.only ob.out (by omega))
     have RW7 := Lib.hid (ownsRow_only RW6.out ob.out (fun k e => by omega))
     have HB7 := Lib.hid (Nat.le_trans HB6.out ob.out.size)
     generalize w6.setCell ⟨W.heap.size + 1, 0, none⟩ (.slice A6 (ps.length + 1) c6) = w7 at *
     clear P6 O6 K4_6 HB6 ob y0 y1 fy0 fy1 K5_6 OG RW6 l6 g6 own6 ZA CN SZ x0 x1 fx0 fx1 xa0
     go_wp2_with (first
      |(go_at_call 35; (with_reducible refine (OC.out _ P7.out).mono ?_); rintro e w8 ⟨rfl, p, o⟩; have P8 := Lib.hid p; have O8 := Lib.hid (O7.out.up o); have HB8 := Lib.hid (Nat.le_trans HB7.out o.size); have K5_8 := Lib.hid (K5_7.out.only o (by have := HG.out; omega)); have K4_8 := Lib.hid (K4_7.out.only o (by have := HG.out; omega)); have RW8 := Lib.hid (ownsRow_only RW7.out o (fun k e => by have := HG.out; omega)); clear p o)
      |(go_at_call 51; (with_reducible refine (TR.out _ _ P8.out).mono ?_); rintro e w9 ⟨rfl, p, o⟩; have P9 := Lib.hid p; have O9 := Lib.hid (O8.out.up o); have HB9 := Lib.hid (Nat.le_trans HB8.out o.size); have K5_9 := Lib.hid (K5_8.out.only o (by have := HG.out; omega)); have K4_9 := Lib.hid (K4_8.out.only o (by have := HG.out; omega)); have RW9 := Lib.hid (ownsRow_only RW8.out o (fun k e => by have := HG.out; omega)); have ST9 := Lib.hid (strs_own (P := Lo ((W.alloc (.cells Z2 36)).alloc (.cells Z2 36))) RW9.out (fun q e => by have := (RW9.out.lt q e).1; have := HS2.out; unfold Lo; omega)); clear p o)
      |(go_at_call 16; (with_reducible refine (BL.out _ _ P9.out).mono ?_); rintro e w10 ⟨⟨v, rfl, sl⟩, p, o, ii⟩; obtain ⟨B, cb, rfl, sl⟩ := sl_shape sl; have PX := Lib.hid p; have OX := Lib.hid (O9.out.up o); have K5X := Lib.hid (K5_9.out.only o (by have := HG.out; omega)); have K4X := Lib.hid (K4_9.out.only o (by have := HG.out; omega)); have STX := Lib.hid (strs_mv (Q := Lo ((W.alloc (.cells Z2 36)).alloc (.cells Z2 36))) o (fun k hk e => by have := HW0.out; unfold Lo at hk; omega) (fun _ hk => hk) ST9.out); have LW := Lib.hid (show ((W.alloc (.cells Z2 36)).alloc (.cells Z2 36)).heap.size ≤ w9.heap.size by have := HB9.out; have := HS2.out; omega); have SLX := Lib.hid (sl_mv (Q := Lo ((W.alloc (.cells Z2 36)).alloc (.cells Z2 36))) (Only.refl (fun _ => False) w10) (fun _ _ f => f) (fun k hk => by have := LW.out; unfold Lo at *; omega) sl); have II := Lib.hid ii; have oo := only_at w10 (W.heap.size + 1) 1 (.slice B (bl (PrM.take T ⟨#[41]⟩ sn)).1.len cb); have PY := Lib.hid (PX.out.only oo (fun i e => .inl (by have := HG.out; omega))); have OY := Lib.hid (OX.out.setCell (p := ⟨W.heap.size + 1, 1, none⟩) (.inr (Nat.le_succ _)) (.slice B (bl (PrM.take T ⟨#[41]⟩ sn)).1.len cb)); have K5Y := Lib.hid (blkP1 K5X.out (.slice B (bl (PrM.take T ⟨#[41]⟩ sn)).1.len cb)); have K4Y := Lib.hid (K4X.out.only oo (by omega)); have STY := Lib.hid (strs_mv (Q := Lo ((W.alloc (.cells Z2 36)).alloc (.cells Z2 36))) oo (fun k hk e => by have := HS2.out; unfold Lo at hk; omega) (fun _ hk => hk) STX.out); have SLY := Lib.hid (sl_mv (Q := Lo ((W.alloc (.cells Z2 36)).alloc (.cells Z2 36))) oo (fun k hk e => by have := HS2.out; unfold Lo at hk; omega) (fun _ hk => hk) SLX.out); clear p o sl ii oo; obtain ⟨⟨a0, a1⟩, f0, f1⟩ := K5X.out.pair)
      |(go_at_call 51; (with_reducible refine (TE.out _ _ PY.out).mono ?_); rintro e w11 ⟨rfl, p, o⟩; have PZ := Lib.hid p; have OZ := Lib.hid (OY.out.up o); have K5Z := Lib.hid (K5Y.out.only o (by have := HG.out; omega)); have K4Z := Lib.hid (K4Y.out.only o (by have := HG.out; omega)); have STZ := Lib.hid (strs_mv (Q := Lo ((W.alloc (.cells Z2 36)).alloc (.cells Z2 36))) o (fun k hk e => by have := HW0.out; unfold Lo at hk; omega) (fun _ hk => hk) STY.out); have SLZ := Lib.hid (sl_mv (Q := Lo ((W.alloc (.cells Z2 36)).alloc (.cells Z2 36))) o (fun k hk e => by have := HW0.out; unfold Lo at hk; omega) (fun _ hk => hk) SLY.out); clear p o; obtain ⟨⟨z0, z1⟩, -⟩ := K5Z.out.pair)
      |(refine wpList_store_row rfl 36 (.tmp 4) (.tmp 39) rfl W.heap.size #[.slice A6 (ps.length + 1) c6, (.slice B (bl (PrM.take T ⟨#[41]⟩ sn)).1.len cb)] rfl rfl 36 _ K4Z.out sizeF rfl (ones2 STZ.out.oneCell SLZ.out.oneCell) ?_)
      |(refine wp_store_row 36 (.tmp 4) (.tmp 39) rfl W.heap.size #[.slice A6 (ps.length + 1) c6, (.slice B (bl (PrM.take T ⟨#[41]⟩ sn)).1.len cb)] rfl rfl 36 _ K4Z.out sizeF rfl (ones2 STZ.out.oneCell SLZ.out.oneCell) ?_))
     refine bodyPost_ret (res2 rfl _ _ W.heap.size (.slice A6 (ps.length + 1) c6) (.slice B (bl (PrM.take T ⟨#[41]⟩ sn)).1.len cb) rfl (blk_row K4Z.out)) rfl ?_
     have er := ER.out
     rw [er]
     have oo := only_row w11 W.heap.size #[.slice A6 (ps.length + 1) c6, (.slice B (bl (PrM.take T ⟨#[41]⟩ sn)).1.len cb)]
     exact ⟨⟨_, _, rfl, _, _, rfl, strs_mv oo (fun k hk e => by have := HS2.out; unfold Lo at hk; omega) (fun k hk => by have := HS2.out; unfold Lo at *; omega) STZ.out, sl_mv oo (fun k hk e => by have := HS2.out; unfold Lo at hk; omega) (fun k hk => by have := HS2.out; unfold Lo at *; omega) SLZ.out⟩, PZ.out.only oo (fun i e => .inl (by have := HG.out; omega)), OZ.out.row W.heap.size (.inr (Nat.le_refl _)) _, (by have h1 := HI.out; have h2 := II.out; have h3 := take_i0 (T := T) ⟨#[101, 110, 100]⟩ (bl (PrM.take T ⟨#[41]⟩ sn)).2; have h4 := take_i0 (T := T) ⟨#[41]⟩ sn; have h5 := HII.out; have h6 := HNI.out; have h7 := HF.out; exact Nat.le_trans (by omega) h3)⟩
  ·have hcb : (s1.code == 0) = false := by simpa using hc
   have ER : Hid (R = (ps, s1)) := Lib.hid (by
    rw [← hM]
    cases k with
    | zero => rfl
    | succ k => unfold PrM.paramsL; rw [if_neg hc])
   clear p0 ow k5 k4 row hbs hM hk hi hl hc HM
   go_wp2_with (first
    |(go_at_call 51; (with_reducible refine (TR.out _ _ P3.out).mono ?_); rintro e w4 ⟨rfl, p, o⟩; have P4 := Lib.hid p; have O4 := Lib.hid (O3.out.up o); have HB4 := Lib.hid (Nat.le_trans HB3.out o.size); have K5_4 := Lib.hid (K5_3.out.only o (by have := HG.out; omega)); have K4_4 := Lib.hid (K4_3.out.only o (by have := HG.out; omega)); have RW4 := Lib.hid (ownsRow_only RW3.out o (fun k e => by have := HG.out; omega)); have ST4 := Lib.hid (strs_own (P := Lo ((W.alloc (.cells Z2 36)).alloc (.cells Z2 36))) RW4.out (fun q e => by have := (RW4.out.lt q e).1; have := HS2.out; unfold Lo; omega)); clear p o)
    |(go_at_call 16; (with_reducible refine (BL.out _ _ P4.out).mono ?_); rintro e w5 ⟨⟨v, rfl, sl⟩, p, o, ii⟩; obtain ⟨B, cb, rfl, sl⟩ := sl_shape sl; have PX := Lib.hid p; have OX := Lib.hid (O4.out.up o); have K5X := Lib.hid (K5_4.out.only o (by have := HG.out; omega)); have K4X := Lib.hid (K4_4.out.only o (by have := HG.out; omega)); have STX := Lib.hid (strs_mv (Q := Lo ((W.alloc (.cells Z2 36)).alloc (.cells Z2 36))) o (fun k hk e => by have := HW0.out; unfold Lo at hk; omega) (fun _ hk => hk) ST4.out); have LW := Lib.hid (show ((W.alloc (.cells Z2 36)).alloc (.cells Z2 36)).heap.size ≤ w4.heap.size by have := HB4.out; have := HS2.out; omega); have SLX := Lib.hid (sl_mv (Q := Lo ((W.alloc (.cells Z2 36)).alloc (.cells Z2 36))) (Only.refl (fun _ => False) w5) (fun _ _ f => f) (fun k hk => by have := LW.out; unfold Lo at *; omega) sl); have II := Lib.hid ii; have oo := only_at w5 (W.heap.size + 1) 1 (.slice B (bl (PrM.take T ⟨#[41]⟩ s1)).1.len cb); have PY := Lib.hid (PX.out.only oo (fun i e => .inl (by have := HG.out; omega))); have OY := Lib.hid (OX.out.setCell (p := ⟨W.heap.size + 1, 1, none⟩) (.inr (Nat.le_succ _)) (.slice B (bl (PrM.take T ⟨#[41]⟩ s1)).1.len cb)); have K5Y := Lib.hid (blkP1 K5X.out (.slice B (bl (PrM.take T ⟨#[41]⟩ s1)).1.len cb)); have K4Y := Lib.hid (K4X.out.only oo (by omega)); have STY := Lib.hid (strs_mv (Q := Lo ((W.alloc (.cells Z2 36)).alloc (.cells Z2 36))) oo (fun k hk e => by have := HS2.out; unfold Lo at hk; omega) (fun _ hk => hk) STX.out); have SLY := Lib.hid (sl_mv (Q := Lo ((W.alloc (.cells Z2 36)).alloc (.cells Z2 36))) oo (fun k hk e => by have := HS2.out; unfold Lo at hk; omega) (fun _ hk => hk) SLX.out); clear p o sl ii oo; obtain ⟨⟨a0, a1⟩, f0, f1⟩ := K5X.out.pair)
    |(go_at_call 51; (with_reducible refine (TE.out _ _ PY.out).mono ?_); rintro e w6 ⟨rfl, p, o⟩; have PZ := Lib.hid p; have OZ := Lib.hid (OY.out.up o); have K5Z := Lib.hid (K5Y.out.only o (by have := HG.out; omega)); have K4Z := Lib.hid (K4Y.out.only o (by have := HG.out; omega)); have STZ := Lib.hid (strs_mv (Q := Lo ((W.alloc (.cells Z2 36)).alloc (.cells Z2 36))) o (fun k hk e => by have := HW0.out; unfold Lo at hk; omega) (fun _ hk => hk) STY.out); have SLZ := Lib.hid (sl_mv (Q := Lo ((W.alloc (.cells Z2 36)).alloc (.cells Z2 36))) o (fun k hk e => by have := HW0.out; unfold Lo at hk; omega) (fun _ hk => hk) SLY.out); clear p o; obtain ⟨⟨z0, z1⟩, -⟩ := K5Z.out.pair)
    |(refine wpList_store_row rfl 36 (.tmp 4) (.tmp 39) rfl W.heap.size #[.slice A ps.length cq, (.slice B (bl (PrM.take T ⟨#[41]⟩ s1)).1.len cb)] rfl rfl 36 _ K4Z.out sizeF rfl (ones2 STZ.out.oneCell SLZ.out.oneCell) ?_)
    |(refine wp_store_row 36 (.tmp 4) (.tmp 39) rfl W.heap.size #[.slice A ps.length cq, (.slice B (bl (PrM.take T ⟨#[41]⟩ s1)).1.len cb)] rfl rfl 36 _ K4Z.out sizeF rfl (ones2 STZ.out.oneCell SLZ.out.oneCell) ?_))
   refine bodyPost_ret (res2 rfl _ _ W.heap.size (.slice A ps.length cq) (.slice B (bl (PrM.take T ⟨#[41]⟩ s1)).1.len cb) rfl (blk_row K4Z.out)) rfl ?_
   have er := ER.out
   rw [er]
   have oo := only_row w6 W.heap.size #[.slice A ps.length cq, (.slice B (bl (PrM.take T ⟨#[41]⟩ s1)).1.len cb)]
   exact ⟨⟨_, _, rfl, _, _, rfl, strs_mv oo (fun k hk e => by have := HS2.out; unfold Lo at hk; omega) (fun k hk => by have := HS2.out; unfold Lo at *; omega) STZ.out, sl_mv oo (fun k hk e => by have := HS2.out; unfold Lo at hk; omega) (fun k hk => by have := HS2.out; unfold Lo at *; omega) SLZ.out⟩, PZ.out.only oo (fun i e => .inl (by have := HG.out; omega)), OZ.out.row W.heap.size (.inr (Nat.le_refl _)) _, (by have h1 := HI.out; have h2 := II.out; have h3 := take_i0 (T := T) ⟨#[101, 110, 100]⟩ (bl (PrM.take T ⟨#[41]⟩ s1)).2; have h4 := take_i0 (T := T) ⟨#[41]⟩ s1; have h5 := HII.out; exact Nat.le_trans (by omega) h3)⟩
/-- Any function. -/
theorem body_any (hG : PrM.Good T) (hF : OkF g tg c T F) (W : World) (st : St) (d : Nat) (h : PS W g tg c T st) (hd : d ≤ 100) (hm : 100 * (101 - d) + 5 ≤ F + 1) : Calls Try.prog 50 #[ptr g, .int .i64 (d : Int)] W (RF W g tg c T st ((fs T (F + 1)).body d st)) := by
 cases hb : is T ⟨#[41]⟩ (PrM.take T ⟨#[40]⟩ st) with
 | true => exact body_none hG hF W st d h hd hm hb
 | false => exact body_some hG hF W st d h hd hm hb
end
end Go.Proofs.Yteakhlnnepjhpaa
/- The document's parser, plain: behind the first error nothing is turned. -/
set_option linter.unusedVariables false
namespace Go.Proofs.Yteakhlnnepjhpaa.PrM
section
variable (T : List LxM.T)
theorem is_off {st : St} (h : st.code ≠ 0) (x : ByteArray) : is T x st = false := by
 unfold is; rw [decide_eq_false h]; rfl
theorem fail_off {st : St} (h : st.code ≠ 0) (c : Int) : fail T c st = st := by unfold fail; rw [if_neg h]
theorem opt_off {st : St} (h : st.code ≠ 0) (x : ByteArray) : opt T x st = st := by unfold opt; rw [is_off T h]; rfl
theorem take_off {st : St} (h : st.code ≠ 0) (x : ByteArray) : take T x st = st := by unfold take; rw [is_off T h, fail_off T h]; rfl
theorem nameS_off {st : St} (h : st.code ≠ 0) : nameS T st = st := by unfold nameS; rw [if_neg h]
theorem deep_off {st : St} (h : st.code ≠ 0) (d : Int) : deep T d st = st := by unfold deep; rw [fail_off T h]; split <;> rfl
theorem full_off {st : St} (h : st.code ≠ 0) (n m : Int) : full T n m st = st := by unfold full; rw [fail_off T h]; split <;> rfl
theorem ends_off {st : St} (h : st.code ≠ 0) : ends T st = true := by unfold ends; rw [decide_eq_true h]; rfl
theorem behindL_off (ex : St → X × St) (N k : Nat) (e : X) {st : St} (h : st.code ≠ 0) : behindL T ex N k e st = (e, st) := by
 cases k with
 | zero => rfl
 | succ k => unfold behindL; rw [if_neg h]
theorem exp_off (F : Nat) (d : Int) {st : St} (h : st.code ≠ 0) : ((fs T F).exp d st).2 = st := by
 match F with
 | 0 => rfl
 | 1 => show (deep T (d + 1) st) = st; exact deep_off T h _
 | F + 2 =>
  show (levelS T (fs T F) 0 (d + 1) (deep T (d + 1) st)).2 = st
  rw [deep_off T h]
  unfold levelS
  rw [if_pos h]
theorem behind_off (F : Nat) (e : X) (d : Int) {st : St} (h : st.code ≠ 0) : ((fs T F).behind e d st) = (e, st) := by
 match F with
 | 0 => rfl
 | F + 1 => exact behindL_off T _ _ _ e h
end
end Go.Proofs.Yteakhlnnepjhpaa.PrM
/- The document's parser: statements: what their ways share (printed by genpr11.py). -/
namespace Go.Proofs.Yteakhlnnepjhpaa
open Go.RowKit PrM
set_option linter.unusedVariables false
section
variable {F : Nat → Prop} {w w' W : World} {x : X} {v : Value} {l : List ByteArray} {cs : Array Value} {z : Nat}
theorem stMv (hF : ∀ k, F k → k < W.heap.size) (o : Only F w w') (h : Strs w (Lo W) v l) : Strs w' (Lo W) v l := h.move (Moves.of_only o (fun k hk _ f => by have := hF k f; unfold Lo at hk; omega) (fun _ hk _ => hk))
theorem slMv (hF : ∀ k, F k → k < W.heap.size) (o : Only F w w') (h : Sl x.len (Rd w (Lo W) x).row z v) : Sl x.len (Rd w' (Lo W) x).row z v := h.imp (Rd.move (Moves.of_only o (fun k hk _ f => by have := hF k f; unfold Lo at hk; omega) (fun _ hk _ => hk)) x).2.1
theorem clMv (hF : ∀ k, F k → k < W.heap.size) (o : Only F w w') (h : (Rd w (Lo W) x).cells cs) : (Rd w' (Lo W) x).cells cs := (Rd.move (Moves.of_only o (fun k hk _ f => by have := hF k f; unfold Lo at hk; omega) (fun _ hk _ => hk)) x).1 _ h
theorem stBel {B : Nat} (hB : w.heap.size ≤ B) (o : Below B w w') (h : Strs w (Lo W) v l) : Strs w' (Lo W) v l := h.move (Moves.of_below (o.mono hB) (fun _ hk _ => hk))
theorem slBel {B : Nat} (hB : w.heap.size ≤ B) (o : Below B w w') (h : Sl x.len (Rd w (Lo W) x).row z v) : Sl x.len (Rd w' (Lo W) x).row z v := h.imp (Rd.move (Moves.of_below (o.mono hB) (fun _ hk _ => hk)) x).2.1
theorem clBel {B : Nat} (hB : w.heap.size ≤ B) (o : Below B w w') (h : (Rd w (Lo W) x).cells cs) : (Rd w' (Lo W) x).cells cs := (Rd.move (Moves.of_below (o.mono hB) (fun _ hk _ => hk)) x).1 _ h
theorem strsOne (h : W.heap.size ≤ w.heap.size) (nm : ByteArray) : Strs (w.alloc (.cells #[.string nm] 9)) (Lo W) (.slice (some ⟨w.heap.size, 0, none⟩) 1 1) [nm] := by
 refine ⟨_, 1, rfl, (fun e => nomatch e), Nat.le_refl _, fun i hi => ⟨_, rfl, h, al_lt w _, ?_⟩⟩
 obtain rfl : i = 0 := by simpa using hi
 show (w.alloc _).cell? ⟨w.heap.size, 0 + 0, none⟩ = _
 unfold World.cell?
 rw [show (w.alloc (.cells #[.string nm] 9)).heap[w.heap.size]? = _ from Blk.new w #[.string nm] 9]
 rfl
theorem wideW {w1 : World} (h : W.heap.size ≤ w1.heap.size) (rd : (Rd w (Lo w1) x).cells cs) : (Rd w (Lo W) x).cells cs :=
 (Rd.move (Moves.of_below (Below.refl _ w) fun k hk _ => by unfold Lo at *; omega) x).1 _ rd
theorem wideS {w1 : World} (h : W.heap.size ≤ w1.heap.size) (rd : Sl x.len (Rd w (Lo w1) x).row z v) : Sl x.len (Rd w (Lo W) x).row z v :=
 rd.imp (Rd.move (Moves.of_below (Below.refl _ w) fun k hk _ => by unfold Lo at *; omega) x).2.1
theorem slOneE {v0 v1 v2 v3 v4 v5 v6 : Value} (h : W.heap.size ≤ w.heap.size) (rd : (Rd w (Lo W) x).cells #[v0, v1, v2, v3, v4, v5, v6]) : Sl (X.one x).len (Rd (w.alloc (.cells #[v0, v1, v2, v3, v4, v5, v6] 39)) (Lo W) (X.one x)).row 7 (.slice (some ⟨w.heap.size, 0, none⟩) 1 1) :=
 sl_new (own_one rd rfl) _ _ rfl (fun _ hk _ => hk) h
theorem slOneF {v0 v1 : Value} (h : W.heap.size ≤ w.heap.size) (rd : (Rd w (Lo W) x).cells #[v0, v1]) : Sl (X.one x).len (Rd (w.alloc (.cells #[v0, v1] 36)) (Lo W) (X.one x)).row 2 (.slice (some ⟨w.heap.size, 0, none⟩) 1 1) :=
 sl_new (own_one rd rfl) _ _ rfl (fun _ hk _ => hk) h
theorem slTwoE {y : X} {v0 v1 v2 v3 v4 v5 v6 u0 u1 u2 u3 u4 u5 u6 : Value} (h : W.heap.size ≤ w.heap.size) (rd : (Rd w (Lo W) x).cells #[v0, v1, v2, v3, v4, v5, v6]) (rd2 : (Rd w (Lo W) y).cells #[u0, u1, u2, u3, u4, u5, u6]) : Sl (X.two x y).len (Rd (w.alloc (.cells #[v0, v1, v2, v3, v4, v5, v6, u0, u1, u2, u3, u4, u5, u6] 39)) (Lo W) (X.two x y)).row 7 (.slice (some ⟨w.heap.size, 0, none⟩) 2 2) :=
 sl_new (own_two rd rd2 rfl rfl) _ _ rfl (fun _ hk _ => hk) h
theorem slOneB (h : W.heap.size ≤ w.heap.size) (rd : Sl x.len (Rd w (Lo W) x).row 5 v) : Sl (X.one (.blk x)).len (Rd (w.alloc (.cells #[v] 23)) (Lo W) (X.one (.blk x))).row 1 (.slice (some ⟨w.heap.size, 0, none⟩) 1 1) :=
 sl_new (own_one (x := .blk x) (cs := #[v]) ⟨v, rfl, rd⟩ rfl) _ _ rfl (fun _ hk _ => hk) h
end
theorem kind_cells {w : World} {P : Nat → Prop} {x : X} {v0 v1 v2 v3 v4 v5 v6 : Value} (h : (Rd w P x).cells #[v0, v1, v2, v3, v4, v5, v6]) : v0 = .int .i64 x.kind := by
 cases x with
 | nil => exact h.elim
 | cons _ _ => exact h.elim
 | e k a n s op l f =>
  obtain ⟨vl, vf, e, -⟩ := h
  have := congrArg (fun q : Array Value => q[0]?) e
  show v0 = .int .i64 k
  simpa using this
 | f ps b => obtain ⟨vl, vf, e, -⟩ := h; exact absurd (congrArg Array.size e) (by simp)
 | s k a ns l b => obtain ⟨vn, vl, vf, e, -⟩ := h; exact absurd (congrArg Array.size e) (by simp)
 | blk l => obtain ⟨v, e, -⟩ := h; exact absurd (congrArg Array.size e) (by simp)
theorem wideO {w w1 W : World} {x : X} {cs : Array Value} (h : W.heap.size ≤ w1.heap.size) (rd : (Rd w (fun k => Lo W k ∨ w1.heap.size ≤ k) x).cells cs) : (Rd w (Lo W) x).cells cs :=
 (Rd.move (Moves.of_below (Below.refl _ w) fun k hk _ => by unfold Lo at *; omega) x).1 _ rd
/-- Two cells of a statement's box, stored in a region that draws. -/
theorem set2 {w : World} {b : Nat} {v0 v1 v2 v3 v4 : Value} {t : TypeId} (h : Blk w b #[v0, v1, v2, v3, v4] t) (u0 u3 : Value) :
  ∃ w', w' = ((w.setCell ⟨b, 0, none⟩ u0).setCell ⟨b, 3, none⟩ u3) ∧ Hid (Blk w' b #[u0, v1, v2, u3, v4] t) ∧ Hid (Only (fun k => k = b) w w') := by
 refine ⟨_, rfl, ?_, ?_⟩
 ·have h : w.heap[b]? = _ := h
  show _ = _
  simp [World.setCell, Array.getElem?_modify, h]
 ·exact Lib.hid (((Only.refl (fun k => k = b) w).setCell (p := ⟨b, 0, none⟩) (.inl rfl) u0).setCell (p := ⟨b, 3, none⟩) (.inl rfl) u3)
theorem blkF2 {W : World} {b : Nat} {v0 v1 v2 v3 v4 : Value} {t : TypeId} (h : Blk W b #[v0, v1, v2, v3, v4] t) (u : Value) : Blk (W.setCell ⟨b, 2, none⟩ u) b #[v0, v1, u, v3, v4] t := by
 have h : W.heap[b]? = _ := h
 show (W.setCell ⟨b, 2, none⟩ u).heap[b]? = _
 simp [World.setCell, Array.getElem?_modify, h]
theorem blkF4 {W : World} {b : Nat} {v0 v1 v2 v3 v4 : Value} {t : TypeId} (h : Blk W b #[v0, v1, v2, v3, v4] t) (u : Value) : Blk (W.setCell ⟨b, 4, none⟩ u) b #[v0, v1, v2, v3, u] t := by
 have h : W.heap[b]? = _ := h
 show (W.setCell ⟨b, 4, none⟩ u).heap[b]? = _
 simp [World.setCell, Array.getElem?_modify, h]
theorem strsN (w : World) (P : Nat → Prop) : Strs w P (.slice none 0 0) [] := strs_nil0 w P
/-- What a statement's walk answers. -/
def SQ (W : World) (g b tg c : Nat) (T : List LxM.T) (st : St) (r : X × St) (e : Ending) (W' : World) : Prop :=
 e = .returned (.tuple #[]) ∧ (∃ v0 v1 v2 v3 v4, Blk W' b #[v0, v1, v2, v3, v4] 42 ∧ (Rd W' (Lo W) r.1).cells #[v0, v1, v2, v3, v4]) ∧ PS W' g tg c T r.2 ∧ Only (fun k => k = g ∨ k = b) W W' ∧ st.i ≤ r.2.i ∧ (r.2.code ≠ 0 ∨ st.i < r.2.i)
theorem shapeS {w : World} {P : Nat → Prop} {v : Value} {l : List ByteArray} (h : Strs w P v l) : ∃ A c, v = .slice A l.length c := by
 obtain ⟨A, c, e, -⟩ := h
 exact ⟨A, c, e⟩
end Go.Proofs.Yteakhlnnepjhpaa
/- The document's parser: statements: local (printed by genpr11.py). -/
namespace Go.Proofs.Yteakhlnnepjhpaa
open Go.RowKit PrM
set_option linter.unusedVariables false
set_option linter.unusedSimpArgs false
section
variable {F g tg c : Nat} {T : List LxM.T}
set_option maxRecDepth 20000 in
set_option maxHeartbeats 16000000 in
theorem stat_local (hG : PrM.Good T) (hF : OkF g tg c T F) (W : World) (st : St) (a : Int) (b d : Nat) (h : PS W g tg c T st) (hb : Blk W b #[.int .i64 0, .int .i64 a, .slice none 0 0, .slice none 0 0, .slice none 0 0] 42) (hgb : g < b) (h0 : st.code = 0) (hd : d ≤ 100) (hm : 100 * (101 - d) + 6 ≤ F + 1) (q0 : is T ⟨#[108, 111, 99, 97, 108]⟩ st = true) :
  Calls Try.prog 38 #[ptr g, ptr b, .int .i64 (d : Int)] W (SQ W g b tg c T st ((fs T (F + 1)).stat (.s 0 a [] .nil .nil) d st)) := by
 have e1 : (fs T (F + 1)).stat (.s 0 a [] .nil .nil) d st = statS T (fs T F) d a st := rfl
 rw [e1]
 unfold PrM.statS
 rw [q0, if_pos rfl]
 clear e1
 have EX := Lib.hid (fun W1 st1 (h1 : PS W1 g tg c T st1) => hF.exp W1 st1 d h1 hd (by omega))
 have BL := Lib.hid (fun W1 st1 (h1 : PS W1 g tg c T st1) => hF.block W1 st1 d h1 hd (by omega))
 have BO := Lib.hid (fun W1 st1 (h1 : PS W1 g tg c T st1) => hF.body W1 st1 d h1 hd (by omega))
 have BH := Lib.hid (fun W1 st1 P x v0 v1 v2 v3 v4 v5 v6 (h1 : PS W1 g tg c T st1) hr hp => hF.behind W1 st1 P x v0 v1 v2 v3 v4 v5 v6 d h1 hr hp hd (by omega))
 generalize (fs T F).exp (d : Int) = ex at *
 generalize (fs T F).block (d : Int) = bl at *
 generalize (fs T F).body (d : Int) = bo at *
 have HG := Lib.hid h.blk.lt
 have HB := Lib.hid hb.lt
 have HGB := Lib.hid hgb
 have HGG := Lib.hid hG
 have HFG : Hid (∀ k, k = g → k < W.heap.size) := Lib.hid (fun k e => e ▸ HG.out)
 have HFB : Hid (∀ k, k = b → k < W.heap.size) := Lib.hid (fun k e => e ▸ HB.out)
 have P0 := Lib.hid h
 have O0 := Lib.hid (Only.refl (fun k => k = g ∨ k = b) W)
 have KB0 := Lib.hid hb
 have i0 : (0 : Int) ≤ (d : Int) := by omega
 have i1 : (d : Int) ≤ 100 := by omega
 have OQ0 := Lib.hid (fun W1 (h1 : PS W1 g tg c T st) => opt_any h1 HGG.out ⟨#[108, 111, 99, 97, 108]⟩)
 unfold PrM.opt at OQ0
 rw [q0, if_pos rfl] at OQ0
 clear h hb hgb hG hF hm hd h0 q0
 have OFN := Lib.hid (fun W1 (h1 : PS W1 g tg c T (up st)) => opt_any h1 HGG.out ⟨#[102, 117, 110, 99, 116, 105, 111, 110]⟩)
 unfold PrM.opt at OFN
 cases hf : is T ⟨#[102, 117, 110, 99, 116, 105, 111, 110]⟩ (up st) with
 | true =>
  rw [hf, if_pos rfl] at OFN
  rw [if_pos rfl]
  clear hf
  have NA := Lib.hid (fun W1 (h1 : PS W1 g tg c T (up (up st))) => name_any h1 HGG.out)
  have HN := Lib.hid (name_i (T := T) (up (up st)))
  generalize nameT T (up (up st)) = nm at *
  generalize nameS T (up (up st)) = s2 at *
  dsimp only
  have BO2 := Lib.hid (fun W1 (h1 : PS W1 g tg c T s2) => BO.out W1 _ h1)
  generalize bo s2 = rb at *
  go_enter Try.func38, Try.ntmps38
  go_wp2_with (first
   |(go_at_call 35; (with_reducible refine (OQ0.out _ P0.out).mono ?_); rintro e w1 ⟨rfl, p, o⟩; have P1 := Lib.hid p; have O1 := Lib.hid (O0.out.trans o (fun n f => .inl (.inl f))); have KB1 := Lib.hid (KB0.out.only o (by have := HGB.out; omega)); clear p o)
   |(go_at_call 35; (with_reducible refine (OFN.out _ P1.out).mono ?_); rintro e w2 ⟨rfl, p, o⟩; have P2 := Lib.hid p; have O2 := Lib.hid (O1.out.trans o (fun n f => .inl (.inl f))); have KB2 := Lib.hid (KB1.out.only o (by have := HGB.out; omega)); clear p o)
   |(go_at_call 49; (with_reducible refine (NA.out _ P2.out).mono ?_); rintro e w3 ⟨rfl, p, o⟩; have P3 := Lib.hid p; have O3 := Lib.hid (O2.out.trans o (fun n f => .inl (.inl f))); have KB3 := Lib.hid (KB2.out.only o (by have := HGB.out; omega)); clear p o; have SN_4 := Lib.hid (strsOne O3.out.size nm); have P4 := Lib.hid (P3.out.alloc (.cells #[.string nm] 9)); have O4 := Lib.hid (O3.out.alloc (.cells #[.string nm] 9)); have KB4 := Lib.hid (blk_al (.cells #[.string nm] 9) KB3.out); obtain ⟨⟨z0_4, z1_4, z2_4, z3_4, z4_4⟩, f0_4, f1_4, f2_4, f3_4, f4_4⟩ := KB4.out.five; have ob := only_cell (w3.alloc (.cells #[.string nm] 9)) b 2 (.slice (some ⟨w3.heap.size, 0, none⟩) 1 1); have P5 := Lib.hid (P4.out.only ob (fun i e => .inl (by have := HGB.out; omega))); have O5 := Lib.hid (O4.out.trans ob (fun n f => .inl (.inr f))); have KB5 := Lib.hid (blkF2 KB4.out (.slice (some ⟨w3.heap.size, 0, none⟩) 1 1)); have SN_5 := Lib.hid (stMv HFB.out ob SN_4.out); clear ob)
   |(go_at_call 34; (with_reducible refine (place_any P5.out).mono ?_); rintro e w6 ⟨rfl, sm⟩; have P6 := Lib.hid (P5.out.sm sm); have O6 := Lib.hid (O5.out.trans (Only.of_below (F := fun _ => False) (sm.below _)) (fun _ f => f.elim)); have KB6 := Lib.hid (KB5.out.sm sm); have SN_6 := Lib.hid (stBel (Nat.le_refl _) (sm.below _) SN_5.out); clear sm)
   |(go_at_call 50; (with_reducible refine (BO2.out _ P6.out).mono ?_); rintro e w7 ⟨⟨b0, b1, rfl, rd⟩, p, o, ii⟩; have P7 := Lib.hid p; have O7 := Lib.hid (O6.out.trans o (fun n f => .inl (.inl f))); have KB7 := Lib.hid (KB6.out.only o (by have := HGB.out; omega)); have SN_7 := Lib.hid (stMv HFG.out o SN_6.out); have RB_7 := Lib.hid (wideW O6.out.size rd); have IRB := Lib.hid ii; clear rd ii; clear p o; have SF_8 := Lib.hid (slOneF O7.out.size RB_7.out); have P8 := Lib.hid (P7.out.alloc (.cells #[b0, b1] 36)); have O8 := Lib.hid (O7.out.alloc (.cells #[b0, b1] 36)); have KB8 := Lib.hid (blk_al (.cells #[b0, b1] 36) KB7.out); have SN_8 := Lib.hid (stBel (Nat.le_refl _) (al_below w7 (.cells #[b0, b1] 36)) SN_7.out); have RE := Lib.hid (show (Rd (w7.alloc (.cells #[b0, b1] 36)) (Lo W) (.e 7 (place T s2) 0 ⟨#[]⟩ 0 .nil (X.one rb.1))).cells #[.int .i64 7, .int .i64 (place T s2), .int .i64 0, .string ⟨#[]⟩, .int .i64 0, .slice none 0 0, .slice (some ⟨w7.heap.size, 0, none⟩) 1 1] from ⟨_, _, rfl, sl_nil _ _ _, SF_8.out⟩); have k := slOneE O8.out.size RE.out; rw [World.size_alloc] at k; have SL_9 := Lib.hid k; clear k; have P9 := Lib.hid (P8.out.alloc (.cells #[.int .i64 7, .int .i64 (place T s2), .int .i64 0, .string ⟨#[]⟩, .int .i64 0, .slice none 0 0, .slice (some ⟨w7.heap.size, 0, none⟩) 1 1] 39)); have O9 := Lib.hid (O8.out.alloc (.cells #[.int .i64 7, .int .i64 (place T s2), .int .i64 0, .string ⟨#[]⟩, .int .i64 0, .slice none 0 0, .slice (some ⟨w7.heap.size, 0, none⟩) 1 1] 39)); have KB9 := Lib.hid (blk_al (.cells #[.int .i64 7, .int .i64 (place T s2), .int .i64 0, .string ⟨#[]⟩, .int .i64 0, .slice none 0 0, .slice (some ⟨w7.heap.size, 0, none⟩) 1 1] 39) KB8.out); have SN_9 := Lib.hid (stBel (Nat.le_refl _) (al_below (w7.alloc (.cells #[b0, b1] 36)) (.cells #[.int .i64 7, .int .i64 (place T s2), .int .i64 0, .string ⟨#[]⟩, .int .i64 0, .slice none 0 0, .slice (some ⟨w7.heap.size, 0, none⟩) 1 1] 39)) SN_8.out); obtain ⟨⟨z0_9, z1_9, z2_9, z3_9, z4_9⟩, f0_9, f1_9, f2_9, f3_9, f4_9⟩ := KB9.out.five; have ob := only_cell ((w7.alloc (.cells #[b0, b1] 36)).alloc (.cells #[.int .i64 7, .int .i64 (place T s2), .int .i64 0, .string ⟨#[]⟩, .int .i64 0, .slice none 0 0, .slice (some ⟨w7.heap.size, 0, none⟩) 1 1] 39)) b 0 (.int .i64 12); have P10 := Lib.hid (P9.out.only ob (fun i e => .inl (by have := HGB.out; omega))); have O10 := Lib.hid (O9.out.trans ob (fun n f => .inl (.inr f))); have KB10 := Lib.hid (blkF0 KB9.out (.int .i64 12)); have SN_10 := Lib.hid (stMv HFB.out ob SN_9.out); have SL_10 := Lib.hid (slMv HFB.out ob SL_9.out); clear ob; have ob := only_cell (((w7.alloc (.cells #[b0, b1] 36)).alloc (.cells #[.int .i64 7, .int .i64 (place T s2), .int .i64 0, .string ⟨#[]⟩, .int .i64 0, .slice none 0 0, .slice (some ⟨w7.heap.size, 0, none⟩) 1 1] 39)).setCell ⟨b, 0, none⟩ (.int .i64 12)) b 3 (.slice (some ⟨w7.heap.size + 1, 0, none⟩) 1 1); have P11 := Lib.hid (P10.out.only ob (fun i e => .inl (by have := HGB.out; omega))); have O11 := Lib.hid (O10.out.trans ob (fun n f => .inl (.inr f))); have KB11 := Lib.hid (blkF3 KB10.out (.slice (some ⟨w7.heap.size + 1, 0, none⟩) 1 1)); have SN_11 := Lib.hid (stMv HFB.out ob SN_10.out); have SL_11 := Lib.hid (slMv HFB.out ob SL_10.out); clear ob))
  refine bodyPost_ret (results_none rfl _ _ _) rfl ?_
  exact ⟨rfl, ⟨_, _, _, _, _, KB11.out, _, _, _, rfl, SN_11.out, SL_11.out, sl_nil _ _ _⟩, P11.out, O11.out, (by have h1 := HN.out; have h2 := IRB.out; have hu : (up (up st)).i = st.i + 1 + 1 := rfl; show st.i ≤ rb.2.i; omega), (.inr (by have h1 := HN.out; have h2 := IRB.out; have hu : (up (up st)).i = st.i + 1 + 1 := rfl; show st.i < rb.2.i; omega))⟩
 | false =>
  rw [hf, if_neg (show ¬ (false = true) from nofun)] at OFN
  rw [if_neg (show ¬ (false = true) from nofun)]
  clear hf
  have NA := Lib.hid (fun W1 (h1 : PS W1 g tg c T (up st)) => name_any h1 HGG.out)
  have HN := Lib.hid (name_i (T := T) (up st))
  generalize nameT T (up st) = nm at *
  generalize nameS T (up st) = s2 at *
  dsimp only
  have OE := Lib.hid (fun W1 (h1 : PS W1 g tg c T s2) => opt_any h1 HGG.out ⟨#[61]⟩)
  unfold PrM.opt at OE
  have hu : (up st).i = st.i + 1 := rfl
  have HU := Lib.hid hu
  clear hu
  cases hq : is T ⟨#[61]⟩ s2 with
  | true =>
   rw [hq, if_pos rfl] at OE
   rw [if_pos rfl]
   have EX2 := Lib.hid (fun W1 (h1 : PS W1 g tg c T (up s2)) => EX.out W1 _ h1)
   generalize ex (up s2) = r at *
   clear hq
   go_enter Try.func38, Try.ntmps38
   go_wp2_with (first
    |(go_at_call 35; (with_reducible refine (OQ0.out _ P0.out).mono ?_); rintro e w1 ⟨rfl, p, o⟩; have P1 := Lib.hid p; have O1 := Lib.hid (O0.out.trans o (fun n f => .inl (.inl f))); have KB1 := Lib.hid (KB0.out.only o (by have := HGB.out; omega)); clear p o)
    |(go_at_call 35; (with_reducible refine (OFN.out _ P1.out).mono ?_); rintro e w2 ⟨rfl, p, o⟩; have P2 := Lib.hid p; have O2 := Lib.hid (O1.out.trans o (fun n f => .inl (.inl f))); have KB2 := Lib.hid (KB1.out.only o (by have := HGB.out; omega)); clear p o)
    |(go_at_call 49; (with_reducible refine (NA.out _ P2.out).mono ?_); rintro e w3 ⟨rfl, p, o⟩; have P3 := Lib.hid p; have O3 := Lib.hid (O2.out.trans o (fun n f => .inl (.inl f))); have KB3 := Lib.hid (KB2.out.only o (by have := HGB.out; omega)); clear p o; have SN_4 := Lib.hid (strsOne O3.out.size nm); have P4 := Lib.hid (P3.out.alloc (.cells #[.string nm] 9)); have O4 := Lib.hid (O3.out.alloc (.cells #[.string nm] 9)); have KB4 := Lib.hid (blk_al (.cells #[.string nm] 9) KB3.out); obtain ⟨⟨z0_4, z1_4, z2_4, z3_4, z4_4⟩, f0_4, f1_4, f2_4, f3_4, f4_4⟩ := KB4.out.five; have ob := only_cell (w3.alloc (.cells #[.string nm] 9)) b 0 (.int .i64 1); have P5 := Lib.hid (P4.out.only ob (fun i e => .inl (by have := HGB.out; omega))); have O5 := Lib.hid (O4.out.trans ob (fun n f => .inl (.inr f))); have KB5 := Lib.hid (blkF0 KB4.out (.int .i64 1)); have SN_5 := Lib.hid (stMv HFB.out ob SN_4.out); clear ob; have ob := only_cell ((w3.alloc (.cells #[.string nm] 9)).setCell ⟨b, 0, none⟩ (.int .i64 1)) b 2 (.slice (some ⟨w3.heap.size, 0, none⟩) 1 1); have P6 := Lib.hid (P5.out.only ob (fun i e => .inl (by have := HGB.out; omega))); have O6 := Lib.hid (O5.out.trans ob (fun n f => .inl (.inr f))); have KB6 := Lib.hid (blkF2 KB5.out (.slice (some ⟨w3.heap.size, 0, none⟩) 1 1)); have SN_6 := Lib.hid (stMv HFB.out ob SN_5.out); clear ob)
    |(go_at_call 35; (with_reducible refine (OE.out _ P6.out).mono ?_); rintro e w7 ⟨rfl, p, o⟩; have P7 := Lib.hid p; have O7 := Lib.hid (O6.out.trans o (fun n f => .inl (.inl f))); have KB7 := Lib.hid (KB6.out.only o (by have := HGB.out; omega)); have SN_7 := Lib.hid (stMv HFG.out o SN_6.out); clear p o)
    |(go_at_call 37; (with_reducible refine (EX2.out _ P7.out).mono ?_); rintro e w8 ⟨⟨u0, u1, u2, u3, u4, u5, u6, rfl, rd⟩, p, o, ii⟩; have P8 := Lib.hid p; have O8 := Lib.hid (O7.out.trans o (fun n f => .inl (.inl f))); have KB8 := Lib.hid (KB7.out.only o (by have := HGB.out; omega)); have SN_8 := Lib.hid (stMv HFG.out o SN_7.out); have RX_8 := Lib.hid (wideW O7.out.size rd); have IRX := Lib.hid ii; clear rd ii; clear p o; have SL_9 := Lib.hid (slOneE O8.out.size RX_8.out); have P9 := Lib.hid (P8.out.alloc (.cells #[u0, u1, u2, u3, u4, u5, u6] 39)); have O9 := Lib.hid (O8.out.alloc (.cells #[u0, u1, u2, u3, u4, u5, u6] 39)); have KB9 := Lib.hid (blk_al (.cells #[u0, u1, u2, u3, u4, u5, u6] 39) KB8.out); have SN_9 := Lib.hid (stBel (Nat.le_refl _) (al_below w8 (.cells #[u0, u1, u2, u3, u4, u5, u6] 39)) SN_8.out); obtain ⟨⟨z0_9, z1_9, z2_9, z3_9, z4_9⟩, f0_9, f1_9, f2_9, f3_9, f4_9⟩ := KB9.out.five; have ob := only_cell (w8.alloc (.cells #[u0, u1, u2, u3, u4, u5, u6] 39)) b 3 (.slice (some ⟨w8.heap.size, 0, none⟩) 1 1); have P10 := Lib.hid (P9.out.only ob (fun i e => .inl (by have := HGB.out; omega))); have O10 := Lib.hid (O9.out.trans ob (fun n f => .inl (.inr f))); have KB10 := Lib.hid (blkF3 KB9.out (.slice (some ⟨w8.heap.size, 0, none⟩) 1 1)); have SN_10 := Lib.hid (stMv HFB.out ob SN_9.out); have SL_10 := Lib.hid (slMv HFB.out ob SL_9.out); clear ob))
   go_end0
   exact ⟨rfl, ⟨_, _, _, _, _, KB10.out, _, _, _, rfl, SN_10.out, SL_10.out, sl_nil _ _ _⟩, P10.out, O10.out, (by have h1 := HN.out; have h2 := IRX.out; have h3 := HU.out; have h4 : (up s2).i = s2.i + 1 := rfl; show st.i ≤ r.2.i; omega), (.inr (by have h1 := HN.out; have h2 := IRX.out; have h3 := HU.out; have h4 : (up s2).i = s2.i + 1 := rfl; show st.i < r.2.i; omega))⟩
  | false =>
   rw [hq, if_neg (show ¬ (false = true) from nofun)] at OE
   rw [if_neg (show ¬ (false = true) from nofun)]
   clear hq
   go_enter Try.func38, Try.ntmps38
   go_wp2_with (first
    |(go_at_call 35; (with_reducible refine (OQ0.out _ P0.out).mono ?_); rintro e w1 ⟨rfl, p, o⟩; have P1 := Lib.hid p; have O1 := Lib.hid (O0.out.trans o (fun n f => .inl (.inl f))); have KB1 := Lib.hid (KB0.out.only o (by have := HGB.out; omega)); clear p o)
    |(go_at_call 35; (with_reducible refine (OFN.out _ P1.out).mono ?_); rintro e w2 ⟨rfl, p, o⟩; have P2 := Lib.hid p; have O2 := Lib.hid (O1.out.trans o (fun n f => .inl (.inl f))); have KB2 := Lib.hid (KB1.out.only o (by have := HGB.out; omega)); clear p o)
    |(go_at_call 49; (with_reducible refine (NA.out _ P2.out).mono ?_); rintro e w3 ⟨rfl, p, o⟩; have P3 := Lib.hid p; have O3 := Lib.hid (O2.out.trans o (fun n f => .inl (.inl f))); have KB3 := Lib.hid (KB2.out.only o (by have := HGB.out; omega)); clear p o; have SN_4 := Lib.hid (strsOne O3.out.size nm); have P4 := Lib.hid (P3.out.alloc (.cells #[.string nm] 9)); have O4 := Lib.hid (O3.out.alloc (.cells #[.string nm] 9)); have KB4 := Lib.hid (blk_al (.cells #[.string nm] 9) KB3.out); obtain ⟨⟨z0_4, z1_4, z2_4, z3_4, z4_4⟩, f0_4, f1_4, f2_4, f3_4, f4_4⟩ := KB4.out.five; have ob := only_cell (w3.alloc (.cells #[.string nm] 9)) b 0 (.int .i64 1); have P5 := Lib.hid (P4.out.only ob (fun i e => .inl (by have := HGB.out; omega))); have O5 := Lib.hid (O4.out.trans ob (fun n f => .inl (.inr f))); have KB5 := Lib.hid (blkF0 KB4.out (.int .i64 1)); have SN_5 := Lib.hid (stMv HFB.out ob SN_4.out); clear ob; have ob := only_cell ((w3.alloc (.cells #[.string nm] 9)).setCell ⟨b, 0, none⟩ (.int .i64 1)) b 2 (.slice (some ⟨w3.heap.size, 0, none⟩) 1 1); have P6 := Lib.hid (P5.out.only ob (fun i e => .inl (by have := HGB.out; omega))); have O6 := Lib.hid (O5.out.trans ob (fun n f => .inl (.inr f))); have KB6 := Lib.hid (blkF2 KB5.out (.slice (some ⟨w3.heap.size, 0, none⟩) 1 1)); have SN_6 := Lib.hid (stMv HFB.out ob SN_5.out); clear ob)
    |(go_at_call 35; (with_reducible refine (OE.out _ P6.out).mono ?_); rintro e w7 ⟨rfl, p, o⟩; have P7 := Lib.hid p; have O7 := Lib.hid (O6.out.trans o (fun n f => .inl (.inl f))); have KB7 := Lib.hid (KB6.out.only o (by have := HGB.out; omega)); have SN_7 := Lib.hid (stMv HFG.out o SN_6.out); clear p o))
   go_end0
   exact ⟨rfl, ⟨_, _, _, _, _, KB7.out, _, _, _, rfl, SN_7.out, sl_nil _ _ _, sl_nil _ _ _⟩, P7.out, O7.out, (by have h1 := HN.out; have h3 := HU.out; show st.i ≤ s2.i; omega), (.inr (by have h1 := HN.out; have h3 := HU.out; show st.i < s2.i; omega))⟩
end
end Go.Proofs.Yteakhlnnepjhpaa
