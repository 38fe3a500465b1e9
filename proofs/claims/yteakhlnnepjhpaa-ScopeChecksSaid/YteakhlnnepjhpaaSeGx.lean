/- The document's own Check: a statement (printed by genseg.py). -/
import Derived.Test.YteakhlnnepjhpaaSeFx
import Derived.Test.YteakhlnnepjhpaaSdAx
namespace Go.Proofs.Yteakhlnnepjhpaa
open Go.RowKit PrM
set_option linter.unusedVariables false
set_option linter.unusedSimpArgs false
theorem limit_ct5 (ns : List ByteArray) (a : Int) (st : ScM.Sc) : (ScM.limit ns a st).ct = st.ct := by
 unfold ScM.limit ScM.fault
 split
 ·split <;> rfl
 ·rfl
theorem v_one {w : World} {B g : Nat} {os ls : List Int} {lo : Int} {st : ScM.Sc} {ns : List ByteArray} (h : VQ w B g os ls lo st) (a : Int) (hn : ns.length = 1) :
  Calls Try.prog 54 #[.pointer (some ⟨g, 0, none⟩), .int .i64 1, .int .i64 a] w (VP w B g os ls lo (ScM.limit ns a st)) := by
 have k := v_declare h ns.length a (by omega)
 have e : lim ns.length a st = ScM.limit ns a st := rfl
 rw [e] at k
 rw [hn] at k
 exact k
theorem len_one {b : X} (h : b.len = 1) (r : ScM.row 1 b) : ∃ md, b = X.one (.blk md) := by
 cases b with
 | cons u t =>
  have h : t.len + 1 = 1 := h
  obtain rfl := len0_nil (z := 1) (show t.len = 0 by omega) r.2
  cases u with
  | blk md => exact ⟨md, rfl⟩
  | nil => exact absurd r.1 (show ¬ (0 : Nat) = 1 by decide)
  | cons => exact absurd r.1 (show ¬ (0 : Nat) = 1 by decide)
  | e => exact absurd r.1 (show ¬ (7 : Nat) = 1 by decide)
  | f => exact absurd r.1 (show ¬ (2 : Nat) = 1 by decide)
  | s => exact absurd r.1 (show ¬ (5 : Nat) = 1 by decide)
 | nil => cases h
 | e => exact r.elim
 | f => exact r.elim
 | s => exact r.elim
 | blk => exact r.elim
theorem blk_at5 {w : World} {P : Nat → Prop} {b md : X} {A : Option Addr} {n c j : Nat} (h : Sl b.len (Rd w P b).row 1 (.slice A n c)) (hj : j < b.len) (e : b.elems[j]? = some (.blk md)) :
  ∃ q A9 d9, A = some q ∧ w.cell? (q.add j) = some (.slice A9 md.len d9) ∧ Sl md.len (Rd w P md).row 5 (.slice A9 md.len d9) := by
 obtain ⟨q, y2, u0, rfl, hy2, cc0, rd2⟩ := Sl.at1 h hj
 obtain rfl := Option.some.inj (hy2.symm.trans e)
 rw [Nat.mul_one] at cc0
 obtain ⟨m2, w0, e2, he2, sm⟩ := Rd.is_b rd2 rfl
 injection e2 with e2
 subst e2
 simp only [Array.mk.injEq, List.cons.injEq, and_true] at he2
 subst he2
 obtain ⟨A9, d9, rfl⟩ := slice_of sm
 exact ⟨q, A9, d9, rfl, cc0, sm⟩
theorem blk_one {w : World} {P : Nat → Prop} {md : X} {A : Option Addr} {n c : Nat} (h : Sl (X.one (.blk md)).len (Rd w P (X.one (.blk md))).row 1 (.slice A n c)) :
  ∃ q A9 d9, A = some q ∧ w.cell? q = some (.slice A9 md.len d9) ∧ Sl md.len (Rd w P md).row 5 (.slice A9 md.len d9) := by
 obtain ⟨q, A9, d9, e, c0, s⟩ := blk_at5 (j := 0) h (Nat.succ_pos _) rfl
 exact ⟨q, A9, d9, e, by rw [show q.add 0 = q by simp [Addr.add]] at c0; exact c0, s⟩
theorem sub1 {w : World} {P : Nat → Prop} {x : X} {p : Addr} {n c i : Nat} (h : Sl x.len (Rd w P x).row 7 (.slice (some p) n c)) (hi : i < x.len) :
  ∃ y, x.elems[i]? = some y ∧ ∀ d, 1 ≤ d → Sl (X.one y).len (Rd w P (X.one y)).row 7 (.slice (some (p.add (i * 7))) 1 d) := by
 obtain ⟨A', c', e, -, -, hr⟩ := h
 injection e with e1 e2 e3
 subst e1
 have hi' : i < x.elems.length := by rw [elems_len]; exact hi
 obtain ⟨p', cs, e, hp, hlt, hz, hc, hd⟩ := Rd.at x 7 _ 0 i hi' hr
 obtain rfl := Option.some.inj e
 have eb : (p.add (i * 7)).block = p.block := by unfold Addr.add; split <;> rfl
 refine ⟨_, List.getElem?_eq_getElem hi', fun d hd1 => ⟨_, d, rfl, (fun e => nomatch e), hd1, ⟨p.add (i * 7), cs, rfl, by rw [eb]; exact hp, by rw [eb]; exact hlt, hz, fun j u hu => ?_, hd⟩, trivial⟩⟩
 have k := hc j u hu
 rw [Nat.zero_add] at k
 rw [Nat.zero_add, add_add]
 exact k
theorem row_shift {w : World} {P : Nat → Prop} {z n : Nat} {p : Addr} : ∀ (x : X) (off : Nat), (Rd w P x).row z (some p) (off + n) → (Rd w P x).row z (some (p.add n)) off
 | .nil, _, _ => trivial
 | .cons h t, off, ⟨⟨q, cs, e, hp, hlt, hz, hc, hd⟩, hr⟩ => by
  obtain rfl := Option.some.inj e
  have eb : (p.add n).block = p.block := by unfold Addr.add; split <;> rfl
  refine ⟨⟨_, cs, rfl, by rw [eb]; exact hp, by rw [eb]; exact hlt, hz, fun j u hu => ?_, hd⟩, row_shift t (off + z) (by rw [show off + z + n = off + n + z by omega]; exact hr)⟩
  have k := hc j u hu
  rw [add_add, show n + (off + j) = off + n + j by omega]
  exact k
 | .e .., _, h => h.elim
 | .f .., _, h => h.elim
 | .s .., _, h => h.elim
 | .blk _, _, h => h.elim
/-- A row's first expression, and those behind it. -/
theorem set_head {w : World} {P : Nat → Prop} {l l1 f1 r : X} {k1 a1 m1 op : Int} {sv : ByteArray} {A3 : Option Addr} {d3 : Nat} (e : l = .cons (.e k1 a1 m1 sv op l1 f1) r) (h : Sl l.len (Rd w P l).row 7 (.slice A3 l.len d3)) :
  ∃ p A5 d5 A6 d6, A3 = some p ∧ r.len + 1 ≤ d3 ∧ (w.cell? p = some (.int .i64 k1) ∧ w.cell? ⟨p.block, p.off + 1, none⟩ = some (.int .i64 a1) ∧ w.cell? ⟨p.block, p.off + 2, none⟩ = some (.int .i64 m1) ∧ w.cell? ⟨p.block, p.off + 3, none⟩ = some (.string sv) ∧ w.cell? ⟨p.block, p.off + 4, none⟩ = some (.int .i64 op) ∧ w.cell? ⟨p.block, p.off + 5, none⟩ = some (.slice A5 l1.len d5) ∧ w.cell? ⟨p.block, p.off + 6, none⟩ = some (.slice A6 f1.len d6)) ∧
   Sl l1.len (Rd w P l1).row 7 (.slice A5 l1.len d5) ∧ Sl f1.len (Rd w P f1).row 2 (.slice A6 f1.len d6) ∧ Sl r.len (Rd w P r).row 7 (.slice (if d3 = 1 then some p else some ⟨p.block, p.off + 7, none⟩) r.len (d3 - 1)) := by
 subst e
 have hh := h
 obtain ⟨p, y, v0, v1, v2, v3, v4, v5, v6, rfl, hy, hc, rd⟩ := Sl.at7 (i := 0) h (Nat.succ_pos _)
 obtain rfl := Option.some.inj hy
 obtain ⟨k', a', m', sv', op', l', f', w5, w6, he0, he, sl, sf⟩ := Rd.is_e rd rfl
 injection he0 with i1 i2 i3 i4 i5 i6 i7
 subst i1 i2 i3 i4 i5 i6 i7
 simp only [Array.mk.injEq, List.cons.injEq, and_true] at he
 obtain ⟨rfl, rfl, rfl, rfl, rfl, rfl, rfl⟩ := he
 obtain ⟨A5, d5, rfl⟩ := slice_of sl
 obtain ⟨A6, d6, rfl⟩ := slice_of sf
 rw [show p.add (0 * 7) = p by simp [Addr.add]] at hc
 obtain ⟨A', c', e, -, hl, hr⟩ := hh
 injection e with e1 e2 e3
 subst e1 e3
 have hl : r.len + 1 ≤ d3 := hl
 refine ⟨p, A5, d5, A6, d6, rfl, hl, hc, sl, sf, ?_⟩
 by_cases q : d3 = 1
 ·rw [if_pos q]
  have r0 := len0_nil (z := 7) (show r.len = 0 by omega) (Sl.wf h (.inl rfl)).1.2
  subst r0
  exact ⟨_, _, rfl, (fun e => nomatch e), Nat.zero_le _, trivial⟩
 ·rw [if_neg q]
  have e7 : p.add 7 = ⟨p.block, p.off + 7, none⟩ := by unfold Addr.add; split <;> simp_all
  rw [← e7]
  exact ⟨_, _, rfl, (fun e => nomatch e), (by omega), row_shift r 0 hr.2⟩
theorem set_use {sv : ByteArray} {a1 : Int} {st T : ScM.Sc} (hb : ScM.has st.names sv = false) (hT : T = if (ScM.builtin sv = true ∧ false = false) then ScM.fault 14 a1 st else st) :
  ((ScM.use sv a1 T).names = (ScM.fault 14 a1 st).names ∧ (ScM.use sv a1 T).own = (ScM.fault 14 a1 st).own ∧ (ScM.use sv a1 T).err = (ScM.fault 14 a1 st).err ∧ (ScM.use sv a1 T).at_ = (ScM.fault 14 a1 st).at_) ∧ (ScM.fault 14 a1 st).ct ≤ (ScM.use sv a1 T).ct ∧ (ScM.use sv a1 T).ct ≤ st.ct + 1 := by
 have fs : (ScM.fault 14 a1 st).names = st.names ∧ (ScM.fault 14 a1 st).ct = st.ct := by unfold ScM.fault; split <;> exact ⟨rfl, rfl⟩
 cases hB : ScM.builtin sv with
 | true =>
  rw [hB, if_pos ⟨rfl, rfl⟩] at hT
  have e : ScM.use sv a1 T = ScM.fault 14 a1 st := by
   rw [hT]
   unfold ScM.use
   rw [hB, Bool.or_true, if_pos rfl]
  rw [e]
  exact ⟨⟨rfl, rfl, rfl, rfl⟩, Nat.le_refl _, by rw [fs.2]; exact Nat.le_succ _⟩
 | false =>
  rw [hB, if_neg (by simp)] at hT
  have e : ScM.use sv a1 T = ScM.note sv (ScM.fault 14 a1 st) := by
   rw [hT]
   unfold ScM.use
   rw [hb, hB]
   rfl
  rw [e]
  have x := ScM.note_ext sv (ScM.fault 14 a1 st)
  exact ⟨note_same _ _, x.lo, by have := x.ct; rw [fs.2] at this; exact this⟩
/-- A block that opens no loop. -/
theorem v_scope1 {md : X} (v : VB md) (oen : VE .nil) (hm : ScM.wf md) {w : World} {B g : Nat} {os ls : List Int} {lo : Int} {s : ScM.Sc} {P : Nat → Prop} {A9 : Option Addr} {d9 : Nat} (q : VQ w B g os ls lo s) (hl : lo = (s.loops : Int)) (m : Sl md.len (Rd w P md).row 5 (.slice A9 md.len d9)) (hP : ∀ q, P q → q < B) (hs : s.ct + (1 + 0 + ScM.sz md) ≤ 1000000000000) :
  Calls Try.prog 20 #[.pointer (some ⟨g, 0, none⟩), .slice A9 md.len d9, .slice none 0 0, .slice none 0 0] w (VP w B g os ls lo (ScM.scope 1 [] (ScM.runs (ScM.sem md).2) s)) := by
 have c := v .nil w B g os ls lo (ScM.enter 1 s) P P _ (.slice none 0 0) (.slice none 0 0) [] (by rw [hl]; rfl) oen trivial trivial (q.conv rfl rfl rfl rfl (Nat.le_succ _) (by show s.ct + 1 ≤ _; omega)) m hP (strs_nil _ P) hP (sl_nil _ P 7) (by show s.ct + 1 + (0 + _ + 0) ≤ _; omega)
 refine c.mono ?_
 rintro e w' ⟨rfl, h, k⟩
 have ct := (blkR_ct (ps := []) (t := .nil) hm trivial (ScM.enter 1 s)).1
 refine ⟨rfl, h.conv rfl rfl rfl rfl (Nat.le_refl _) ?_, k⟩
 show (blkR [] .nil md (ScM.enter 1 s)).ct ≤ _
 have e1 : (ScM.enter 1 s).ct = s.ct + 1 := rfl
 have e2 : ([] : List ByteArray).length = 0 := rfl
 have e3 : ScM.sz .nil = 0 := rfl
 rw [e1, e2, e3] at ct
 omega
set_option maxRecDepth 20000 in
set_option maxHeartbeats 16000000 in
/-- stat. -/
theorem v_stat {k a : Int} {ns : List ByteArray} {l b : X} (el : VE l) (e1 : ∀ y ∈ l.elems, VE (X.one y)) (es : ∀ y r, l = .cons y r → VX y ∧ VE r) (hb : ∀ y ∈ b.elems, ∀ m, y = .blk m → VB m) (wl : ScM.wf l) (rl : ScM.row 7 l) (wb : ScM.wf b) (rb : ScM.row 1 b) (ffl : l.fit 100000) (ffb : b.fit 100000) (fn : ns.length ≤ 100000) (ok : PrM.OkS k ns l b) (sh : Shp l) (oen : VE .nil) : VS (.s k a ns l b) := by
 intro w B g os ls lo st P v2 v3 v4 hlo h sn sl sb hP hc
 obtain ⟨A2, d2, rfl⟩ := strs_slice sn
 obtain ⟨A3, d3, rfl⟩ := slice_of sl
 obtain ⟨A4, d4, rfl⟩ := slice_of sb
 have bel := (Below.refl w.heap.size w).alloc (Nat.le_refl _) (.cells #[.int .i64 k, .int .i64 a, .slice A2 ns.length d2, .slice A3 l.len d3, .slice A4 b.len d4] 42)
 have BX := Blk.new w #[.int .i64 k, .int .i64 a, .slice A2 ns.length d2, .slice A3 l.len d3, .slice A4 b.len d4] 42
 have KA := Kv.of_below bel h.base
 have Q0 := h.keep bel
 obtain ⟨xb, hxb⟩ : ∃ xb, w.heap.size = xb := ⟨_, rfl⟩
 obtain ⟨wx, hwx⟩ : ∃ wx, w.alloc (.cells #[.int .i64 k, .int .i64 a, .slice A2 ns.length d2, .slice A3 l.len d3, .slice A4 b.len d4] 42) = wx := ⟨_, rfl⟩
 rw [hwx] at KA Q0 BX
 rw [hxb] at BX
 have Q0 := Lib.hid Q0
 have KA := Lib.hid KA
 have BXK := Lib.hid (fun (W : World) (q : Kv B wx W) => q.blk _ _ _ BX (by decide) (by decide) (by decide))
 have SNK := Lib.hid (fun (W : World) (q : Kv B wx W) => sn.kv (KA.out.trans q) hP)
 have SLK := Lib.hid (fun (W : World) (q : Kv B wx W) => sl.kv (KA.out.trans q) hP)
 have SBK := Lib.hid (fun (W : World) (q : Kv B wx W) => sb.kv (KA.out.trans q) hP)
 obtain ⟨⟨z0, z1, z2, z3, z4⟩, -⟩ := BX.five
 have HP := Lib.hid hP
 have LO := Lib.hid hlo
 have EL := Lib.hid el
 have E1 := Lib.hid e1
 have ES := Lib.hid es
 have HB := Lib.hid hb
 have WL := Lib.hid wl
 have RL := Lib.hid rl
 have WB := Lib.hid wb
 have RB := Lib.hid rb
 have OK := Lib.hid ok
 have SH := Lib.hid sh
 have OEN := Lib.hid oen
 have FN5 := Lib.hid fn
 have HC := Lib.hid (show st.ct + (1 + ns.length + ScM.sz l + ScM.sz b + b.len * (1 + ns.length)) ≤ 1000000000000 from hc)
 have LC := Lib.hid (limit_ct5 ns a st)
 have fl := X.fit_len l ffl
 have fb := X.fit_len b ffb
 obtain ⟨mb, hmb⟩ : ∃ mb, b.len = mb := ⟨_, rfl⟩
 have HM := Lib.hid hmb
 rw [hmb] at fb
 have m0 : (0 : Int) ≤ (mb : Int) := by omega
 have m1 : (mb : Int) ≤ 100000 := by omega
 clear h sn sl sb hP hlo el e1 es hb wl rl wb rb ok sh oen hc ffl ffb BX bel fn hmb fb
 by_cases h1 : k = 1
 ·subst h1
  have hn1 := (OK.out.1 (.inl rfl)).1
  have hb0 := (OK.out.1 (.inl rfl)).2
  have SE := Lib.hid (show (ScM.sem (.s 1 a ns l b)).1 st = ScM.declare ns (ScM.runs (ScM.sem l).2 (ScM.limit ns a st)) by rw [hb0]; rfl)
  have C1 := Lib.hid (v_one Q0.out a hn1)
  have C2 := Lib.hid (fun (W : World) (k : Kv B wx W) (q : VQ W B g os ls lo (ScM.limit ns a st)) => EL.out W B g os ls lo _ P _ q (SLK.out W k) HP.out (by have := LC.out; have := HC.out; omega))
  have CE := Lib.hid (GE.calm WL.out RL.out (ScM.limit ns a st))
  have C3 := Lib.hid (fun (W : World) (k : Kv B wx W) (q : VQ W B g os ls lo (ScM.runs (ScM.sem l).2 (ScM.limit ns a st))) => v_add q (SNK.out W k) (by have := CE.out; have := LC.out; have := HC.out; omega))
  clear hn1 hb0
  go_enter Try.func44, Try.ntmps44
  go_wp2_with (first
   |(go_at_call 54; refine C1.out.mono ?_; rintro e w1 ⟨rfl, h1, k1⟩; have K1 := Lib.hid k1; have H1 := Lib.hid h1; have D2 := Lib.hid (C2.out _ k1 h1); clear h1 k1; clear z0 z1 z2 z3 z4; obtain ⟨⟨z0, z1, z2, z3, z4⟩, -⟩ := (BXK.out _ K1.out).five)
   |(go_at_call 45; refine D2.out.mono ?_; rintro e w2 ⟨rfl, h2, k2⟩; have K2 := Lib.hid (K1.out.trans k2); have H2 := Lib.hid h2; have D3 := Lib.hid (C3.out _ K2.out h2); clear h2 k2; clear z0 z1 z2 z3 z4; obtain ⟨⟨z0, z1, z2, z3, z4⟩, -⟩ := (BXK.out _ K2.out).five)
   |(go_at_call 43; refine D3.out.mono ?_; rintro e w3 ⟨rfl, h3, k3⟩; have K3 := Lib.hid (K2.out.trans k3); have H3 := Lib.hid h3; clear h3 k3; clear z0 z1 z2 z3 z4; obtain ⟨⟨z0, z1, z2, z3, z4⟩, -⟩ := (BXK.out _ K3.out).five))
  go_end0
  exact ⟨rfl, (by rw [SE.out]; exact H3.out), KA.out.trans K3.out⟩
 by_cases h12 : k = 12
 ·subst h12
  have hn1 := (OK.out.1 (.inr rfl)).1
  have hb0 := (OK.out.1 (.inr rfl)).2
  have SE := Lib.hid (show (ScM.sem (.s 12 a ns l b)).1 st = ScM.runs (ScM.sem l).2 (ScM.declare ns (ScM.limit ns a st)) by rw [hb0]; rfl)
  have C1 := Lib.hid (v_one Q0.out a hn1)
  have CD := Lib.hid (show (ScM.declare ns (ScM.limit ns a st)).ct = st.ct + ns.length from congrArg (· + ns.length) LC.out)
  have C2 := Lib.hid (fun (W : World) (k : Kv B wx W) (q : VQ W B g os ls lo (ScM.limit ns a st)) => v_add q (SNK.out W k) (by have := LC.out; have := HC.out; omega))
  have C3 := Lib.hid (fun (W : World) (k : Kv B wx W) (q : VQ W B g os ls lo (ScM.declare ns (ScM.limit ns a st))) => EL.out W B g os ls lo _ P _ q (SLK.out W k) HP.out (by have := CD.out; have := HC.out; omega))
  clear hn1 hb0
  go_enter Try.func44, Try.ntmps44
  go_wp2_with (first
   |(go_at_call 54; refine C1.out.mono ?_; rintro e w1 ⟨rfl, h1, k1⟩; have K1 := Lib.hid k1; have H1 := Lib.hid h1; have D2 := Lib.hid (C2.out _ k1 h1); clear h1 k1; clear z0 z1 z2 z3 z4; obtain ⟨⟨z0, z1, z2, z3, z4⟩, -⟩ := (BXK.out _ K1.out).five)
   |(go_at_call 43; refine D2.out.mono ?_; rintro e w2 ⟨rfl, h2, k2⟩; have K2 := Lib.hid (K1.out.trans k2); have H2 := Lib.hid h2; have D3 := Lib.hid (C3.out _ K2.out h2); clear h2 k2; clear z0 z1 z2 z3 z4; obtain ⟨⟨z0, z1, z2, z3, z4⟩, -⟩ := (BXK.out _ K2.out).five)
   |(go_at_call 45; refine D3.out.mono ?_; rintro e w3 ⟨rfl, h3, k3⟩; have K3 := Lib.hid (K2.out.trans k3); have H3 := Lib.hid h3; clear h3 k3; clear z0 z1 z2 z3 z4; obtain ⟨⟨z0, z1, z2, z3, z4⟩, -⟩ := (BXK.out _ K3.out).five))
  go_end0
  exact ⟨rfl, (by rw [SE.out]; exact H3.out), KA.out.trans K3.out⟩
 by_cases h2 : k = 2
 ·subst h2
  have hl1 := (OK.out.2.1 rfl).1
  have hb0 := (OK.out.2.1 rfl).2
  obtain ⟨y, r, hlc⟩ : ∃ y r, l = .cons y r := by
   cases l with
   | cons y r => exact ⟨y, r, rfl⟩
   | _ => exact absurd hl1 (show ¬ (1 ≤ 0) by decide)
  obtain ⟨k1, a1, m1, sv, op, l1, f1, hy⟩ : ∃ k1 a1 m1 sv op l1 f1, y = .e k1 a1 m1 sv op l1 f1 := by
   have := RL.out
   rw [hlc] at this
   have := this.1
   cases y with
   | e => exact ⟨_, _, _, _, _, _, _, rfl⟩
   | _ => simp [ScM.kz] at this
  subst hy
  have VY : VPt l1 f1 := (ES.out _ _ hlc).1
  have VR := Lib.hid (ES.out _ _ hlc).2
  have VY := Lib.hid VY
  have NM6 : k1 = 6 → l1 = .nil ∧ f1 = .nil := by have := SH.out; rw [hlc] at this; exact this.1.1
  have SE := Lib.hid (show (ScM.sem (.s 2 a ns l b)).1 st = ScM.runs (ScM.sem r).2 (ScM.runs (ScM.sem f1).2 (ScM.runs (ScM.sem l1).2 (expSt k1 sv a1 (ScM.target l st)))) by rw [hb0, hlc]; rfl)
  have SZL := Lib.hid (show ScM.sz l = 1 + ScM.sz l1 + ScM.sz f1 + ScM.sz r by rw [hlc]; rfl)
  have TAR := Lib.hid (show ScM.target l st = if k1 = 6 ∧ (ScM.builtin sv = true ∧ ScM.has st.names sv = false) then ScM.fault 14 a1 st else st by rw [hlc]; rfl)
  have WFE := Lib.hid (show ScM.wf (.e k1 a1 m1 sv op l1 f1) by have := WL.out; rw [hlc] at this; exact this.1)
  obtain ⟨p, A5, d5, A6, d6, rfl, hcap, ⟨c0, c1, c2, c3, c4, c5, c6⟩, s5, s6, tl⟩ := set_head hlc (SLK.out wx (Kv.refl B wx))
  have HLL := Lib.hid (show l.len = r.len + 1 by rw [hlc]; rfl)
  rw [HLL.out] at z3 fl
  obtain ⟨rl1, hrl⟩ : ∃ n, r.len = n := ⟨_, rfl⟩
  have HRL := Lib.hid hrl
  rw [hrl] at z3 hcap fl
  have S5 := Lib.hid (fun (W : World) (q : Kv B wx W) => s5.kv q HP.out)
  have S6 := Lib.hid (fun (W : World) (q : Kv B wx W) => s6.kv q HP.out)
  have TL := Lib.hid (fun (W : World) (q : Kv B wx W) => (show Sl r.len (Rd W P r).row 7 (.slice (if d3 = 1 then some p else some ⟨p.block, p.off + 7, none⟩) rl1 (d3 - 1)) from hrl ▸ tl.kv q HP.out))
  clear hl1 hb0 hlc
  obtain ⟨vn, vw, vl, h0⟩ := Q0.out
  have bA := (Below.refl wx.heap.size wx).alloc (Nat.le_refl _) (.cells #[.int .i64 k1, .int .i64 a1, .int .i64 m1, .string sv, .int .i64 op, .slice A5 l1.len d5, .slice A6 f1.len d6] 39)
  have BE := Blk.new wx #[.int .i64 k1, .int .i64 a1, .int .i64 m1, .string sv, .int .i64 op, .slice A5 l1.len d5, .slice A6 f1.len d6] 39
  have KE := Kv.of_below bA h0.base
  have WO2 := h0.keep bA
  obtain ⟨eb, heb⟩ : ∃ eb, wx.heap.size = eb := ⟨_, rfl⟩
  obtain ⟨w2, hw2⟩ : ∃ W, wx.alloc (.cells #[.int .i64 k1, .int .i64 a1, .int .i64 m1, .string sv, .int .i64 op, .slice A5 l1.len d5, .slice A6 f1.len d6] 39) = W := ⟨_, rfl⟩
  rw [hw2] at BE KE WO2
  rw [heb] at BE
  have BE := Lib.hid BE
  have KE := Lib.hid KE
  have WO2 := Lib.hid WO2
  have Q2 := Lib.hid (show VQ w2 B g os ls lo st from ⟨_, _, _, WO2.out⟩)
  have BEK := Lib.hid (fun (W : World) (q : Kv B w2 W) => q.blk _ _ _ BE.out (by decide) (by decide) (by decide))
  have BX2 := Lib.hid (fun (W : World) (q : Kv B w2 W) => BXK.out W (KE.out.trans q))
  have KB : Hid (∀ W, Below w2.heap.size w2 W → (W.cell? ⟨eb, 0, none⟩ = some (.int .i64 k1) ∧ W.cell? ⟨eb, 3, none⟩ = some (.string sv)) ∧ W.cell? ⟨g, 0, none⟩ = some vn) := Lib.hid fun W b => by
   obtain ⟨⟨x0, x1, x2, x3, x4, x5, x6⟩, -⟩ := (BE.out.keep b).seven
   obtain ⟨⟨y0, y1, y2, y3, y4⟩, -⟩ := (WO2.out.blk.keep b).five
   exact ⟨⟨x0, x3⟩, y0⟩
  obtain ⟨b1, hb1⟩ : ∃ b1, ScM.has st.names sv = b1 := ⟨_, rfl⟩
  have HA1 : Hid (∀ W, Below w2.heap.size w2 W → Calls Try.prog 21 #[vn, .string sv] W fun e w' => e = .returned (.bool b1) ∧ W = w') := Lib.hid fun W b => by
   rw [← hb1]; exact rhas (Txs.of_own (WO2.out.keep b).names) sv (by have := WO2.out.nlen; have := WO2.out.max; omega)
  have HB1 := Lib.hid hb1
  have HW2 := Lib.hid hw2
  have HEB := Lib.hid heb
  have hcap2 : ((rl1 + 1 : Nat) : Int) ≤ (d3 : Int) := by omega
  have hlen1 : (1 : Int) ≤ ((rl1 + 1 : Nat) : Int) := by omega
  have hlen2 : (0 : Int) < ((rl1 + 1 : Nat) : Int) := by omega
  have hlen3 : (0 : Int) ≤ (rl1 : Int) := by omega
  clear h0 bA hb1 hw2 heb s5 s6 tl hcap hrl
  by_cases q : k1 = 6
  ·obtain ⟨e5, e6⟩ := NM6 q
   have q1 : (k1 == 6) = true := by rw [q]; rfl
   have q1n : (k1 != 6) = false := by rw [q]; rfl
   have ST := Lib.hid (show ScM.runs (ScM.sem f1).2 (ScM.runs (ScM.sem l1).2 (expSt k1 sv a1 (ScM.target l st))) = ScM.use sv a1 (ScM.target l st) by rw [e5, e6]; unfold expSt; rw [if_pos q]; rfl)
   have TR := Lib.hid (show ScM.target l st = if (ScM.builtin sv = true ∧ b1 = false) then ScM.fault 14 a1 st else st by rw [TAR.out, HB1.out]; simp only [q, true_and])
   have Q6 := Lib.hid q
   clear q e5 e6 NM6
   go_enter Try.func44, Try.ntmps44
   go_upto_region 17 with fail
   rw [HW2.out, HEB.out]
   go_cut [73] from 61 to 73 (fun s73 wq => s73 = .bool (!b1) ∧ Below w2.heap.size w2 wq)
   case first =>
    refine wp_region_held_drew (S := fun W => Below w2.heap.size w2 W) (by kernel_rfl) (Below.refl w2.heap.size w2).drew (fun hH0 => ?_)
    refine tkB 0 hH0 ?_
    refine tkB 1 hH0 ?_
    refine tkB 2 hH0 ?_
    refine tkB 3 hH0 ?_
    refine tkB 4 hH0 ?_
    refine tkB 5 hH0 ?_
    refine tkB 6 hH0 ?_
    refine tkB 7 hH0 ?_
    refine tkB 8 hH0 ?_
    refine tkB 9 hH0 ?_
    refine wpAnyH_ready (rs := [10]) (by kernel_rfl) (by simp) ?_
    refine rdB (fun K hK => ?_) AllReadyH.nil
    rw [if_pos (by rfl)]
    go_wp2_with (go_at_call 21; refine (HA1.out _ hH0).mono ?_; rintro e w3 ⟨rfl, rfl⟩)
    refine hK.out _ _ hH0 (fun hH1 => ?_)
    clear hK K
    try simp only [Act.put, List.setIfInBounds_toArray, List.set_cons_zero, List.set_cons_succ]
    refine tkB 11 hH1 ?_
    refine tkB 12 hH1 ?_
    refine wpAnyH_done (by kernel_rfl) ?_ _
    go_wp2_with fail
    go_meet
    case rel => exact ⟨rfl, hH1⟩
   obtain ⟨rfl, bb⟩ := hcut
   have K3 := Lib.hid (Kv.of_below bb WO2.out.base)
   have Q3 := Lib.hid (Q2.out.keep bb)
   clear KB HA1 bb z0 z1 z2 z3 z4
   obtain ⟨⟨z0, z1, z2, z3, z4⟩, -⟩ := (BX2.out _ K3.out).five
   rw [HLL.out, HRL.out] at z3
   obtain ⟨⟨y0, y1, y2, y3, y4, y5, y6⟩, -⟩ := (BEK.out _ K3.out).seven
   cases b1 with
   | true =>
    have EU := Lib.hid (show ScM.use sv a1 (ScM.target l st) = st by rw [TR.out, if_neg (by simp)]; unfold ScM.use; rw [HB1.out]; rfl)
    have C4 := Lib.hid (VR.out wc B g os ls lo st P _ Q3.out (TL.out _ (KE.out.trans K3.out)) HP.out (by have := SZL.out; have := HC.out; omega))
    go_wp2_with (go_at_call 45; refine C4.out.mono ?_; rintro e w7 ⟨rfl, h7, k7⟩; have H7 := Lib.hid h7; have K7 := Lib.hid ((KE.out.trans K3.out).trans k7); clear h7 k7)
    all_goals
     go_end0
     exact ⟨rfl, (by rw [SE.out, ST.out, EU.out]; exact H7.out), KA.out.trans K7.out⟩
   | false =>
    have F1 := Lib.hid (v_fail Q3.out 14 a1)
    have CV := Lib.hid (set_use (a1 := a1) HB1.out TR.out)
    have C4 := Lib.hid (fun (W : World) (k : Kv B wx W) (z : VQ W B g os ls lo (ScM.fault 14 a1 st)) => VR.out W B g os ls lo _ P _ (z.conv CV.out.1.1 CV.out.1.2.1 CV.out.1.2.2.1 CV.out.1.2.2.2 CV.out.2.1 (by have := CV.out.2.2; have := HC.out; have := SZL.out; omega)) (TL.out W k) HP.out (by have := SZL.out; have := HC.out; have := CV.out.2.2; omega))
    go_wp2_with (first
     |(go_at_call 55; refine F1.out.mono ?_; rintro e w6 ⟨rfl, h6, k6⟩; have K6 := Lib.hid (K3.out.trans k6); have D4 := Lib.hid (C4.out _ (KE.out.trans K6.out) h6); clear h6 k6 z0 z1 z2 z3 z4 y0 y1 y2 y3 y4 y5 y6; obtain ⟨⟨z0, z1, z2, z3, z4⟩, -⟩ := (BX2.out _ K6.out).five; rw [HLL.out, HRL.out] at z3; obtain ⟨⟨y0, y1, y2, y3, y4, y5, y6⟩, -⟩ := (BEK.out _ K6.out).seven)
     |(go_at_call 45; refine D4.out.mono ?_; rintro e w7 ⟨rfl, h7, k7⟩; have H7 := Lib.hid h7; have K7 := Lib.hid ((KE.out.trans K6.out).trans k7); clear h7 k7))
    all_goals
     go_end0
     exact ⟨rfl, (by rw [SE.out, ST.out]; exact H7.out), KA.out.trans K7.out⟩
  ·have q1 : (k1 == 6) = false := by simpa using q
   have q1n : (k1 != 6) = true := by simpa using q
   have ST := Lib.hid (show expSt k1 sv a1 (ScM.target l st) = st by rw [TAR.out, if_neg (fun h => q h.1)]; unfold expSt; rw [if_neg q])
   have CE1 := Lib.hid ((ScM.R_calm_all (fun y hy => ScM.sem_ext y (ScM.wf_elems WFE.out.2.2.1 y hy)) WFE.out.1 (.inl rfl) st).ct)
   have CE2 := Lib.hid ((ScM.R_calm_all (fun y hy => ScM.sem_ext y (ScM.wf_elems WFE.out.2.2.2 y hy)) WFE.out.2.1 (.inr rfl) (ScM.runs (ScM.sem l1).2 st)).ct)
   clear q NM6
   go_enter Try.func44, Try.ntmps44
   go_upto_region 17 with fail
   rw [HW2.out, HEB.out]
   go_cut [73] from 61 to 73 (fun s73 wq => s73 = .bool false ∧ Below w2.heap.size w2 wq)
   case first =>
    refine wp_region_held_drew (S := fun W => Below w2.heap.size w2 W) (by kernel_rfl) (Below.refl w2.heap.size w2).drew (fun hH0 => ?_)
    refine tkB 0 hH0 ?_
    refine tkB 1 hH0 ?_
    refine tkB 2 hH0 ?_
    refine tkB 3 hH0 ?_
    refine tkB 4 hH0 ?_
    refine tkB 5 hH0 ?_
    refine tkB 6 hH0 ?_
    refine tkB 7 hH0 ?_
    refine tkB 8 hH0 ?_
    refine tkB 9 hH0 ?_
    refine wpAnyH_ready (rs := [10]) (by kernel_rfl) (by simp) ?_
    refine rdB (fun K hK => ?_) AllReadyH.nil
    rw [if_neg (by exact Bool.false_ne_true)]
    refine hK.out _ _ hH0 (fun hH1 => ?_)
    clear hK K
    try simp only [Act.put, List.setIfInBounds_toArray, List.set_cons_zero, List.set_cons_succ]
    refine tkB 11 hH1 ?_
    refine tkB 12 hH1 ?_
    refine wpAnyH_done (by kernel_rfl) ?_ _
    go_wp2_with fail
    go_meet
    case rel => exact ⟨rfl, hH1⟩
   obtain ⟨rfl, bb⟩ := hcut
   have K3 := Lib.hid (Kv.of_below bb WO2.out.base)
   have Q3 := Lib.hid (Q2.out.keep bb)
   clear KB HA1 bb z0 z1 z2 z3 z4
   obtain ⟨⟨z0, z1, z2, z3, z4⟩, -⟩ := (BX2.out _ K3.out).five
   rw [HLL.out, HRL.out] at z3
   obtain ⟨⟨y0, y1, y2, y3, y4, y5, y6⟩, -⟩ := (BEK.out _ K3.out).seven
   have C3 := Lib.hid (VY.out wc B g os ls lo st P k1 a1 m1 op sv _ _ Q3.out (S5.out _ (KE.out.trans K3.out)) (S6.out _ (KE.out.trans K3.out)) HP.out (by have := SZL.out; have := HC.out; omega))
   have C4 := Lib.hid (fun (W : World) (k : Kv B wx W) (z : VQ W B g os ls lo (ScM.runs (ScM.sem f1).2 (ScM.runs (ScM.sem l1).2 st))) => VR.out W B g os ls lo _ P _ z (TL.out W k) HP.out (by have := SZL.out; have := HC.out; have := CE1.out; have := CE2.out; omega))
   go_wp2_with (first
    |(go_at_call 56; refine C3.out.mono ?_; rintro e w6 ⟨rfl, h6, k6⟩; have K6 := Lib.hid (K3.out.trans k6); have D4 := Lib.hid (C4.out _ (KE.out.trans K6.out) h6); clear h6 k6 z0 z1 z2 z3 z4 y0 y1 y2 y3 y4 y5 y6; obtain ⟨⟨z0, z1, z2, z3, z4⟩, -⟩ := (BX2.out _ K6.out).five; rw [HLL.out, HRL.out] at z3; obtain ⟨⟨y0, y1, y2, y3, y4, y5, y6⟩, -⟩ := (BEK.out _ K6.out).seven)
    |(go_at_call 45; refine D4.out.mono ?_; rintro e w7 ⟨rfl, h7, k7⟩; have H7 := Lib.hid h7; have K7 := Lib.hid ((KE.out.trans K6.out).trans k7); clear h7 k7))
   all_goals
    go_end0
    exact ⟨rfl, (by rw [SE.out, ST.out]; exact H7.out), KA.out.trans K7.out⟩
 by_cases h67 : k = 6 ∨ k = 7
 ·obtain ⟨md, hb⟩ := len_one (show b.len = 1 from OK.out.2.2.2.1 (by omega)) RB.out
  have hb1 : 0 < b.len := by rw [hb]; exact Nat.succ_pos _
  have VM := Lib.hid (v_loop (HB.out (.blk md) (by rw [hb]; exact List.mem_singleton.2 rfl) md rfl) (by have := WB.out; rw [hb] at this; exact this.1.2))
  have SZ := Lib.hid (show ScM.sz b = ScM.sz md by rw [hb]; exact Nat.add_zero _)
  have MLN := Lib.hid (show b.len * (1 + ns.length) = 1 + ns.length by rw [hb]; exact Nat.one_mul _)
  have SE := Lib.hid (show (ScM.sem (.s k a ns l b)).1 st = ScM.scope 2 ns (fun s => ScM.runs (ScM.sem .nil).2 (ScM.runs (ScM.sem md).2 s)) (ScM.runs (ScM.sem l).2 (ScM.limit ns a st)) by
   show ScM.act k a ns l _ _ st = _
   unfold ScM.act
   rw [if_neg h1, if_neg h12, if_neg h2, if_neg (show ¬ k = 4 by omega), if_neg (show ¬ k = 5 by omega), if_pos h67, hb]
   rfl)
  have BK := Lib.hid (fun (W : World) (k : Kv B wx W) => blk_one (hb ▸ SBK.out W k))
  have C1 := Lib.hid (by have k := v_declare Q0.out ns.length a FN5.out; exact (show Calls Try.prog 54 #[.pointer (some ⟨g, 0, none⟩), .int .i64 (ns.length : Int), .int .i64 a] wx (VP wx B g os ls lo (ScM.limit ns a st)) from k))
  have C2 := Lib.hid (fun (W : World) (k : Kv B wx W) (q : VQ W B g os ls lo (ScM.limit ns a st)) => EL.out W B g os ls lo _ P _ q (SLK.out W k) HP.out (by have := LC.out; have := HC.out; omega))
  have CE := Lib.hid (GE.calm WL.out RL.out (ScM.limit ns a st))
  have EL5 := Lib.hid (show lo = ((ScM.runs (ScM.sem l).2 (ScM.limit ns a st)).loops : Int) by rw [(ScM.R_calm_all (fun y hy => ScM.sem_ext y (ScM.wf_elems WL.out y hy)) RL.out (.inl rfl) (ScM.limit ns a st)).loops, (ScM.limit_ext ns a st).loops]; exact LO.out)
  have C3 := Lib.hid (fun (W : World) (k : Kv B wx W) (q : VQ W B g os ls lo (ScM.runs (ScM.sem l).2 (ScM.limit ns a st))) (A9 : Option Addr) (d9 : Nat) (s : Sl md.len (Rd W P md).row 5 (.slice A9 md.len d9)) => VM.out .nil W.drew B g os ls lo _ P P _ (.slice A2 ns.length d2) (.slice none 0 0) ns (EL5.out) OEN.out trivial trivial q.drew (s.kv ((Kv.refl B W).drew) HP.out) HP.out (SNK.out _ (k.drew)) HP.out (sl_nil _ P 7) (by have := CE.out; have := LC.out; have := HC.out; have := SZ.out; have := MLN.out; show _ + (1 + _ + _ + 0) ≤ _; omega))
  clear hb
  rcases h67 with rfl | rfl
  all_goals
   go_enter Try.func44, Try.ntmps44
   go_wp2_with (first
    |(go_at_call 54; refine C1.out.mono ?_; rintro e w1 ⟨rfl, h1, k1⟩; have K1 := Lib.hid k1; have H1 := Lib.hid h1; have D2 := Lib.hid (C2.out _ k1 h1); clear h1 k1; clear z0 z1 z2 z3 z4; obtain ⟨⟨z0, z1, z2, z3, z4⟩, -⟩ := (BXK.out _ K1.out).five)
    |(go_at_call 45; refine D2.out.mono ?_; rintro e w2 ⟨rfl, h2, k2⟩; have K2 := Lib.hid (K1.out.trans k2); have H2 := Lib.hid h2; clear h2 k2; clear z0 z1 z2 z3 z4; obtain ⟨⟨z0, z1, z2, z3, z4⟩, -⟩ := (BXK.out _ K2.out).five; obtain ⟨q, A9, d9, hA4, cc0, sm⟩ := BK.out _ K2.out; subst hA4; have D3 := Lib.hid (C3.out _ K2.out H2.out _ _ sm); clear sm))
   go_region_with (refine D3.out.mono ?_; rintro e w3 ⟨rfl, h3, k3⟩; have H3 := Lib.hid h3; have K3 := Lib.hid (K2.out.drew.trans k3); clear h3 k3)
   all_goals
    go_wp2_with fail
    go_end0
    exact ⟨rfl, (by rw [SE.out]; exact H3.out), KA.out.trans K3.out⟩
 by_cases h5 : k = 5
 ·subst h5
  obtain ⟨md, hb⟩ := len_one (show b.len = 1 from OK.out.2.2.2.1 (.inl rfl)) RB.out
  have hb1 : 0 < b.len := by rw [hb]; exact Nat.succ_pos _
  have VM := Lib.hid (v_loop (HB.out (.blk md) (by rw [hb]; exact List.mem_singleton.2 rfl) md rfl) (by have := WB.out; rw [hb] at this; exact this.1.2))
  have SZ := Lib.hid (show ScM.sz b = ScM.sz md by rw [hb]; exact Nat.add_zero _)
  have MLN := Lib.hid (show b.len * (1 + ns.length) = 1 + ns.length by rw [hb]; exact Nat.one_mul _)
  have SE := Lib.hid (show (ScM.sem (.s 5 a ns l b)).1 st = ScM.scope 2 [] (fun s => ScM.runs (ScM.sem .nil).2 (ScM.runs (ScM.sem md).2 s)) (ScM.runs (ScM.sem l).2 st) by rw [hb]; rfl)
  have BK := Lib.hid (fun (W : World) (k : Kv B wx W) => blk_one (hb ▸ SBK.out W k))
  have C1 := Lib.hid ((fun (W : World) (k : Kv B wx W) (q : VQ W B g os ls lo (st)) => EL.out W B g os ls lo _ P _ q (SLK.out W k) HP.out (by have := HC.out; omega)) wx (Kv.refl B wx) Q0.out)
  have CE := Lib.hid (GE.calm WL.out RL.out st)
  have EL5 := Lib.hid (show lo = ((ScM.runs (ScM.sem l).2 st).loops : Int) by rw [(ScM.R_calm_all (fun y hy => ScM.sem_ext y (ScM.wf_elems WL.out y hy)) RL.out (.inl rfl) st).loops]; exact LO.out)
  have C3 := Lib.hid (fun (W : World) (k : Kv B wx W) (q : VQ W B g os ls lo (ScM.runs (ScM.sem l).2 st)) (A9 : Option Addr) (d9 : Nat) (s : Sl md.len (Rd W P md).row 5 (.slice A9 md.len d9)) => VM.out .nil W B g os ls lo _ P P _ (.slice none 0 0) (.slice none 0 0) [] (EL5.out) OEN.out trivial trivial q s HP.out (strs_nil _ P) HP.out (sl_nil _ P 7) (by have := CE.out; have := HC.out; have := SZ.out; have := MLN.out; show _ + (1 + 0 + _ + 0) ≤ _; omega))
  clear hb
  go_enter Try.func44, Try.ntmps44
  go_wp2_with (first
   |(go_at_call 45; refine C1.out.mono ?_; rintro e w2 ⟨rfl, h2, k2⟩; have K2 := Lib.hid k2; have H2 := Lib.hid h2; clear h2 k2; clear z0 z1 z2 z3 z4; obtain ⟨⟨z0, z1, z2, z3, z4⟩, -⟩ := (BXK.out _ K2.out).five; obtain ⟨q, A9, d9, hA4, cc0, sm⟩ := BK.out _ K2.out; subst hA4; have D3 := Lib.hid (C3.out _ K2.out H2.out _ _ sm); clear sm)
   |(go_at_call 57; refine D3.out.mono ?_; rintro e w3 ⟨rfl, h3, k3⟩; have H3 := Lib.hid h3; have K3 := Lib.hid (K2.out.trans k3); clear h3 k3))
  go_end0
  exact ⟨rfl, (by rw [SE.out]; exact H3.out), KA.out.trans K3.out⟩
 by_cases h8 : k = 8
 ·subst h8
  obtain ⟨md, hb⟩ := len_one (show b.len = 1 from OK.out.2.2.2.1 (.inr (.inr (.inr rfl)))) RB.out
  have hb1 : 0 < b.len := by rw [hb]; exact Nat.succ_pos _
  have VM := Lib.hid (v_loop (HB.out (.blk md) (by rw [hb]; exact List.mem_singleton.2 rfl) md rfl) (by have := WB.out; rw [hb] at this; exact this.1.2))
  have SZ := Lib.hid (show ScM.sz b = ScM.sz md by rw [hb]; exact Nat.add_zero _)
  have MLN := Lib.hid (show b.len * (1 + ns.length) = 1 + ns.length by rw [hb]; exact Nat.one_mul _)
  have SE := Lib.hid (show (ScM.sem (.s 8 a ns l b)).1 st = ScM.scope 2 [] (fun s => ScM.runs (ScM.sem l).2 (ScM.runs (ScM.sem md).2 s)) st by rw [hb]; rfl)
  have BK := Lib.hid (fun (W : World) (k : Kv B wx W) => blk_one (hb ▸ SBK.out W k))
  have C3 := Lib.hid (fun (W : World) (k : Kv B wx W) (q : VQ W B g os ls lo (st)) (A9 : Option Addr) (d9 : Nat) (s : Sl md.len (Rd W P md).row 5 (.slice A9 md.len d9)) => VM.out l W.drew B g os ls lo _ P P _ (.slice none 0 0) (.slice A3 l.len d3) [] (LO.out) EL.out WL.out RL.out q.drew (s.kv ((Kv.refl B W).drew) HP.out) HP.out (strs_nil _ P) HP.out (SLK.out _ (k.drew)) (by have := HC.out; have := SZ.out; have := MLN.out; show _ + (1 + 0 + _ + _) ≤ _; omega))
  clear hb
  have K2 := Lib.hid (Kv.refl B wx)
  obtain ⟨q, A9, d9, hA4, cc0, sm⟩ := BK.out _ K2.out
  subst hA4
  have D3 := Lib.hid (C3.out _ K2.out Q0.out _ _ sm)
  clear sm
  go_enter Try.func44, Try.ntmps44
  go_wp2_with fail
  go_region_with (refine D3.out.mono ?_; rintro e w3 ⟨rfl, h3, k3⟩; have H3 := Lib.hid h3; have K3 := Lib.hid (K2.out.drew.trans k3); clear h3 k3)
  all_goals
   go_wp2_with fail
   go_end0
   exact ⟨rfl, (by rw [SE.out]; exact H3.out), KA.out.trans K3.out⟩
 by_cases h9 : k = 9
 ·subst h9
  have hl0 := (OK.out.2.2.2.2 rfl).1
  have hb0 := (OK.out.2.2.2.2 rfl).2
  have SE := Lib.hid (show (ScM.sem (.s 9 a ns l b)).1 st = ScM.brk a st by rw [hl0, hb0]; rfl)
  obtain ⟨vn, vw, vl, h0⟩ := Q0.out
  have F1 := Lib.hid (v_fail Q0.out.drew 14 a)
  obtain ⟨pl, cl, rfl, hcl, ⟨x0, x1⟩, -⟩ := ir_shape h0.loops
  obtain ⟨⟨c0, c1, c2, c3, c4⟩, -⟩ := h0.blk.five
  have d0 : (0 : Int) ≤ (ls.length : Int) := by omega
  have d1 : (ls.length : Int) ≤ 1000000000000 := by have := h0.d2; have := h0.max; omega
  have e1 : ((ls.length + 1 : Nat) : Int) - 1 = (ls.length : Int) := by omega
  have e2 : (ls.length : Int) < ((ls.length + 1 : Nat) : Int) := by omega
  have hc1 : ((ls.length + 1 : Nat) : Int) ≤ (cl : Int) := by omega
  have Q1 := Lib.hid Q0.out.drew
  clear hl0 hb0 h0 hcl
  by_cases hz : st.loops = 0
  ·have q : (lo == 0) = true := by rw [LO.out, hz]; rfl
   have EB := Lib.hid (show ScM.brk a st = ScM.fault 14 a st from if_pos hz)
   clear hz
   go_enter Try.func44, Try.ntmps44
   go_wp2_with fail
   go_region
   all_goals
    go_wp2_with (go_at_call 55; refine F1.out.mono ?_; rintro e w3 ⟨rfl, h3, k3⟩; have H3 := Lib.hid h3; have K3 := Lib.hid (((Kv.refl B wx).drew).trans k3); clear h3 k3)
    go_end0
    exact ⟨rfl, by rw [SE.out, EB.out]; exact H3.out, KA.out.trans K3.out⟩
  ·have q : (lo == 0) = false := by rw [beq_eq_false_iff_ne, LO.out]; omega
   have EB := Lib.hid (show ScM.brk a st = st from if_neg hz)
   clear hz
   go_enter Try.func44, Try.ntmps44
   go_wp2_with fail
   go_region
   all_goals
    go_wp2_with fail
    go_end0
    exact ⟨rfl, by rw [SE.out, EB.out]; exact Q1.out, KA.out.trans ((Kv.refl B wx).drew)⟩
 by_cases h4 : k = 4
 ·subst h4
  have OKL := OK.out.2.2.1 rfl
  obtain ⟨ml, hml⟩ : ∃ ml, l.len = ml := ⟨_, rfl⟩
  have HL := Lib.hid hml
  rw [hml] at fl
  have l0 : (0 : Int) ≤ (ml : Int) := by omega
  have l1 : (ml : Int) ≤ 100000 := by omega
  have ML5 := Nat.mul_le_mul (Nat.le_refl b.len) (show 1 ≤ 1 + ns.length by omega)
  have HC2 := Lib.hid (show st.ct + (ScM.sz l + (ScM.sz b + b.len * 1)) ≤ 1000000000000 by have := HC.out; omega)
  have SE := Lib.hid (show (ScM.sem (.s 4 a ns l b)).1 st = ScM.CS l b mb st by
   rw [← HM.out]
   show ScM.cs (ScM.sem l).2 ((ScM.sem b).2.map (ScM.scope 1 [])) (max (ScM.sem l).2.length (ScM.sem b).2.length) st = _
   rw [ScM.CS_end, Nat.max_eq_right OKL])
  rw [hml] at z3
  clear ML5 OKL hml
  go_enter Try.func44, Try.ntmps44
  rw [HM.out] at z4
  go_wp2_with fail
  go_loopw [5] (fun u5 wr => ∃ j : Nat, u5 = .int .i64 (j : Int) ∧ j ≤ mb ∧ VQ wr B g os ls lo (ScM.CS l b j st) ∧ Kv B wx wr) (fun u5 _ => (mb : Int).toNat - (intOf u5).toNat)
  case atStart => exact ⟨0, rfl, Nat.zero_le _, Q0.out, Kv.refl B wx⟩
  case round =>
   obtain ⟨j, rfl, hj, hwq, hko⟩ := hrel
   have WQ4 := Lib.hid hwq
   have KO4 := Lib.hid hko
   have j0 : (0 : Int) ≤ (j : Int) := by omega
   have wrj : wrap64 ((j : Int) + 1) = (j : Int) + 1 := by unfold wrap64; omega
   clear hwq hko z0 z1 z2 z3 z4
   obtain ⟨⟨z0, z1, z2, z3, z4⟩, -⟩ := (BXK.out _ KO4.out).five
   rw [HM.out] at z4
   rw [HL.out] at z3
   by_cases hltj : j < mb
   ·have hj2 : j < b.len := by rw [HM.out]; exact hltj
    obtain ⟨md, EB⟩ : ∃ md, b.elems[j]? = some (.blk md) := by
     obtain ⟨q, y2, u0, e, hy2, cc0, rd2⟩ := Sl.at1 (SBK.out _ KO4.out) hj2
     obtain ⟨md, w0, rfl, he2, sm⟩ := Rd.is_b rd2 rfl
     exact ⟨md, hy2⟩
    have WM : ScM.wf md := (ScM.wf_elems WB.out _ (List.mem_of_getElem? EB)).2
    have VM := Lib.hid (HB.out _ (List.mem_of_getElem? EB) md rfl)
    have EBH := Lib.hid EB
    have BK := Lib.hid (fun (W : World) (k : Kv B wx W) => blk_at5 (SBK.out W k) hj2 EBH.out)
    have LTJ := Lib.hid hltj
    have hl2 : (j : Int) < (mb : Int) := by omega
    have CF := Lib.hid (ScM.CS_fit WL.out WB.out RL.out RB.out EB HC2.out)
    have LL := Lib.hid (show lo = ((ScM.CS l b j st).loops : Int) by rw [(ScM.CS_ext (fun y hy => ScM.sem_ext y (ScM.wf_elems WL.out y hy)) (fun y hy => ScM.sem_ext y (ScM.wf_elems WB.out y hy)) RL.out RB.out st j).loops]; exact LO.out)
    have CS1 := Lib.hid (ScM.CS_some (l := l) EB st)
    have DB := Lib.hid (fun (W : World) (q : VQ W B g os ls lo (ScM.CA l b j st)) (hl : lo = ((ScM.CA l b j st).loops : Int)) (A9 : Option Addr) (d9 : Nat) (sm : Sl md.len (Rd W P md).row 5 (.slice A9 md.len d9)) => v_scope1 VM.out OEN.out WM q hl sm HP.out CF.out)
    clear EB hj2 hltj hj
    by_cases hq : j < ml
    ·have hq1 : (j : Int) < (ml : Int) := by omega
     have hq2 : (j : Int) + 1 ≤ (ml : Int) := by omega
     have hq3 : (ml : Int) ≤ (d3 : Int) := by have := (Sl.len (SLK.out _ KO4.out)).2.1; have := HL.out; omega
     obtain ⟨q3, rfl⟩ : ∃ q, A3 = some q := by
      obtain ⟨q, cs, y, e, -⟩ := Sl.at (SLK.out _ KO4.out) (show j < l.len by rw [HL.out]; exact hq)
      exact ⟨q, e⟩
     obtain ⟨y3, hy3, S1⟩ := sub1 (SLK.out _ KO4.out) (show j < l.len by rw [HL.out]; exact hq)
     have S1H := Lib.hid S1
     have C1 := Lib.hid (fun d (hd : 1 ≤ d) => E1.out y3 (List.mem_of_getElem? hy3) wr B g os ls lo _ P _ WQ4.out (S1H.out d hd) HP.out (by have := ScM.CA_fit WL.out WB.out RL.out RB.out hy3 HC2.out; show _ + (ScM.sz y3 + 0) ≤ _; omega))
     have CA1 := Lib.hid (ScM.CA_some (b := b) hy3 st)
     have LA := Lib.hid (show lo = ((ScM.CA l b j st).loops : Int) by rw [CA1.out, (ScM.sem_ext y3 (ScM.wf_elems WL.out y3 (List.mem_of_getElem? hy3)) _).loops]; exact LL.out)
     clear S1 hy3 hq
     go_wp2_with (first
      |(go_at_call 45; refine (C1.out _ (by omega)).mono ?_; rintro e w5 ⟨rfl, h5, kp5⟩; have H5 := Lib.hid h5; have K5 := Lib.hid (KO4.out.trans kp5); clear h5 kp5 z0 z1 z2 z3 z4; obtain ⟨⟨z0, z1, z2, z3, z4⟩, -⟩ := (BXK.out _ K5.out).five; rw [HM.out] at z4; obtain ⟨q, A9, d9, rfl, cc0, sm⟩ := BK.out _ K5.out; have D1 := Lib.hid (DB.out _ (by rw [CA1.out]; exact H5.out) LA.out _ _ sm); clear sm)
      |(go_at_call 20; refine D1.out.mono ?_; rintro e w7 ⟨rfl, h7, k7⟩; have H7 := Lib.hid h7; have K7 := Lib.hid (K5.out.trans k7); clear h7 k7))
     refine ⟨⟨j + 1, ?_, LTJ.out, by rw [CS1.out]; exact H7.out, K7.out⟩, ?_⟩
     ·first | rfl | exact congrArg (Value.int .i64) (wrj.trans (by omega))
     ·have := LTJ.out; simp only [intOf]; omega
    ·have hq1 : ¬ (j : Int) < (ml : Int) := by omega
     have CA1 := Lib.hid (ScM.CA_none (l := l) (b := b) (i := j) (by rw [HL.out]; omega) st)
     obtain ⟨q, A9, d9, rfl, cc0, sm⟩ := BK.out _ KO4.out
     have D1 := Lib.hid (DB.out _ (by rw [CA1.out]; exact WQ4.out) (by rw [CA1.out]; exact LL.out) _ _ sm)
     clear sm hq
     go_wp2_with (go_at_call 20; refine D1.out.mono ?_; rintro e w7 ⟨rfl, h7, k7⟩; have H7 := Lib.hid h7; have K7 := Lib.hid (KO4.out.trans k7); clear h7 k7)
     refine ⟨⟨j + 1, ?_, LTJ.out, by rw [CS1.out]; exact H7.out, K7.out⟩, ?_⟩
     ·first | rfl | exact congrArg (Value.int .i64) (wrj.trans (by omega))
     ·have := LTJ.out; simp only [intOf]; omega
   ·have hl2 : ¬ (j : Int) < (mb : Int) := by omega
    have KQ := Lib.hid (show VQ wr B g os ls lo ((ScM.sem (.s 4 a ns l b)).1 st) by
     rw [SE.out]; have e : j = mb := (by omega); rw [← e]; exact WQ4.out)
    clear hltj hj
    go_wp2_with fail
    go_end0
    exact ⟨rfl, KQ.out, KA.out.trans KO4.out⟩
 have q1 : (k == 1) = false := by simpa using h1
 have q2 : (k == 2) = false := by simpa using h2
 have q4 : (k == 4) = false := by simpa using h4
 have q5 : (k == 5) = false := by simpa using h5
 have q6 : (k == 6) = false := by rw [beq_eq_false_iff_ne]; omega
 have q7 : (k == 7) = false := by rw [beq_eq_false_iff_ne]; omega
 have q8 : (k == 8) = false := by simpa using h8
 have q9 : (k == 9) = false := by simpa using h9
 have q12 : (k == 12) = false := by simpa using h12
 have SE := Lib.hid (show (ScM.sem (.s k a ns l b)).1 st = ScM.runs ((ScM.sem b).2.map (ScM.scope 1 [])) (ScM.runs (ScM.sem l).2 st) by
  show ScM.act k a ns l _ _ st = _
  unfold ScM.act
  rw [if_neg h1, if_neg h12, if_neg h2, if_neg h4, if_neg h5, if_neg (by omega), if_neg h8, if_neg h9]
  rfl)
 have C1 := Lib.hid ((fun (W : World) (k : Kv B wx W) (q : VQ W B g os ls lo (st)) => EL.out W B g os ls lo _ P _ q (SLK.out W k) HP.out (by have := HC.out; omega)) wx (Kv.refl B wx) Q0.out)
 have CE := Lib.hid (GE.calm WL.out RL.out st)
 have LO5 := Lib.hid (show lo = ((ScM.runs (ScM.sem l).2 st).loops : Int) by rw [(ScM.R_calm_all (fun y hy => ScM.sem_ext y (ScM.wf_elems WL.out y hy)) RL.out (.inl rfl) st).loops]; exact LO.out)
 obtain ⟨st2, hst2⟩ : ∃ s, ScM.runs (ScM.sem l).2 st = s := ⟨_, rfl⟩
 have ML5 := Nat.mul_le_mul (Nat.le_refl b.len) (show 1 + 0 ≤ 1 + ns.length by omega)
 rw [hst2] at SE C1 CE LO5
 have HC2 := Lib.hid (show st2.ct + (ScM.sz b + b.len * (1 + ([] : List ByteArray).length)) ≤ 1000000000000 by have := CE.out; have := HC.out; show _ + (_ + b.len * (1 + 0)) ≤ _; omega)
 clear h1 h2 h4 h5 h67 h8 h9 h12 hst2 ML5
 go_enter Try.func44, Try.ntmps44
 go_wp2_with (first
  |(go_at_call 45; refine C1.out.mono ?_; rintro e w2 ⟨rfl, h2, k2⟩; have K2 := Lib.hid k2; have H2 := Lib.hid h2; clear h2 k2; clear z0 z1 z2 z3 z4; obtain ⟨⟨z0, z1, z2, z3, z4⟩, -⟩ := (BXK.out _ K2.out).five; rw [HM.out] at z4))
 go_loopw [6] (fun u6 wr => ∃ j : Nat, u6 = .int .i64 (j : Int) ∧ j ≤ mb ∧ VQ wr B g os ls lo (ScM.RS 1 [] b j st2) ∧ Kv B wx wr) (fun u6 _ => (mb : Int).toNat - (intOf u6).toNat)
 case atStart => exact ⟨0, rfl, Nat.zero_le _, H2.out, K2.out⟩
 case round =>
  obtain ⟨j, rfl, hj, hwq, hko⟩ := hrel
  have WQ4 := Lib.hid hwq
  have KO4 := Lib.hid hko
  have j0 : (0 : Int) ≤ (j : Int) := by omega
  have wrj : wrap64 ((j : Int) + 1) = (j : Int) + 1 := by unfold wrap64; omega
  clear hwq hko z0 z1 z2 z3 z4
  obtain ⟨⟨z0, z1, z2, z3, z4⟩, -⟩ := (BXK.out _ KO4.out).five
  rw [HM.out] at z4
  by_cases hltj : j < mb
  ·have hj2 : j < b.len := by rw [HM.out]; exact hltj
   obtain ⟨md, EB⟩ : ∃ md, b.elems[j]? = some (.blk md) := by
    obtain ⟨q, y2, u0, e, hy2, cc0, rd2⟩ := Sl.at1 (SBK.out _ KO4.out) hj2
    obtain ⟨md, w0, rfl, he2, sm⟩ := Rd.is_b rd2 rfl
    exact ⟨md, hy2⟩
   have WM : ScM.wf md := (ScM.wf_elems WB.out _ (List.mem_of_getElem? EB)).2
   have VM := Lib.hid (HB.out _ (List.mem_of_getElem? EB) md rfl)
   have EBH := Lib.hid EB
   have BK := Lib.hid (fun (W : World) (k : Kv B wx W) => blk_at5 (SBK.out W k) hj2 EBH.out)
   have LTJ := Lib.hid hltj
   have hl2 : (j : Int) < (mb : Int) := by omega
   have RS1 := Lib.hid (ScM.RS_succ (k := 1) (ps := []) EB st2)
   have LL := Lib.hid (show lo = ((ScM.RS 1 [] b j st2).loops : Int) by rw [(ScM.RS_ext (fun y hy => ScM.sem_ext y (ScM.wf_elems WB.out y hy)) RB.out 1 [] st2 j).loops]; exact LO5.out)
   obtain ⟨q, A9, d9, rfl, cc0, sm⟩ := BK.out _ KO4.out
   have D1 := Lib.hid (v_scope1 VM.out OEN.out WM WQ4.out LL.out sm HP.out (RS_fit (k := 1) (ps := []) WB.out RB.out EB HC2.out))
   have CS1 := RS1
   clear sm EB hj2 hltj hj WM
   go_wp2_with (go_at_call 20; refine D1.out.mono ?_; rintro e w7 ⟨rfl, h7, k7⟩; have H7 := Lib.hid h7; have K7 := Lib.hid (KO4.out.trans k7); clear h7 k7)
   refine ⟨⟨j + 1, ?_, LTJ.out, by rw [CS1.out]; exact H7.out, K7.out⟩, ?_⟩
   ·first | rfl | exact congrArg (Value.int .i64) (wrj.trans (by omega))
   ·have := LTJ.out; simp only [intOf]; omega
  ·have hl2 : ¬ (j : Int) < (mb : Int) := by omega
   have KQ := Lib.hid (show VQ wr B g os ls lo ((ScM.sem (.s k a ns l b)).1 st) by
    rw [SE.out, ← ScM.RS_end (k := 1) (ps := []) (x := b) (i := j) (by rw [HM.out]; omega) st2]; exact WQ4.out)
   clear hltj hj
   go_wp2_with fail
   go_end0
   exact ⟨rfl, KQ.out, KA.out.trans KO4.out⟩
end Go.Proofs.Yteakhlnnepjhpaa
