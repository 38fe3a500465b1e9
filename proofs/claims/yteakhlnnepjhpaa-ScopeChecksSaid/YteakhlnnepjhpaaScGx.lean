/- Package scope: the walker over rows: exps, stats, scope, scopes. -/
import Derived.Test.YteakhlnnepjhpaaScFx
namespace Go.Proofs.Yteakhlnnepjhpaa
open Go.RowKit PrM
set_option linter.unusedVariables false
set_option linter.unusedSimpArgs false
/-- What a call on a walker answers. -/
def WP (w : World) (B g : Nat) (S : List It) (st : ScM.Sc) (e : Ending) (w' : World) : Prop := e = .returned (.tuple #[]) ∧ WK w' B g S st ∧ Kp B true w w'
section
variable {w w' : World} {B z : Nat} {b : Bool} {P : Nat → Prop} {x : X} {v : Value}
theorem kpMoves (k : Kp B b w w') (hP : ∀ q, P q → q < B) : Moves w w' P P := ⟨k.bel.size, fun p hp _ => World.cell?_of_block (k.bel.block _ (hP _ hp)), fun _ h _ => h⟩
theorem Sl.kp (h : Sl x.len (Rd w P x).row z v) (k : Kp B b w w') (hP : ∀ q, P q → q < B) : Sl x.len (Rd w' P x).row z v := h.imp (Rd.move (kpMoves k hP) x).2.1
theorem Strs.kp {l : List ByteArray} (h : Strs w P v l) (k : Kp B b w w') (hP : ∀ q, P q → q < B) : Strs w' P v l := h.move (kpMoves k hP)
theorem Strs.nms {l : List ByteArray} (h : Strs w P v l) (hP : ∀ q, P q → q < B) : Nms w B v l := ⟨P, h, fun k hk _ => .inl (hP k hk)⟩
/-- Names of a tree's. -/
def NmT (w : World) (B : Nat) (v : Value) (l : List ByteArray) : Prop := ∃ P, Strs w P v l ∧ ∀ q, P q → q < B
theorem NmT.kp {l : List ByteArray} (h : NmT w B v l) (k : Kp B b w w') : NmT w' B v l := by
 obtain ⟨P, h, hP⟩ := h
 exact ⟨P, h.kp k hP, hP⟩
theorem NmT.nms {l : List ByteArray} (h : NmT w B v l) : Nms w B v l := by
 obtain ⟨P, h, hP⟩ := h
 exact h.nms hP
theorem nmt_nil (w : World) (B : Nat) : NmT w B (.slice none 0 0) [] := ⟨fun _ => False, ⟨none, 0, rfl, fun _ => rfl, Nat.le_refl _, fun i hi => absurd hi (Nat.not_lt_zero _)⟩, fun _ h => h.elim⟩
end
theorem fit_el {n : Nat} : ∀ x : X, x.fit n → ∀ y ∈ x.elems, y.fit n
 | .cons h t, a, y, hy => by
  rcases List.mem_cons.1 hy with rfl | hy
  ·exact a.1
  ·exact fit_el t a.2.1 y hy
 | .nil, _, _, hy => nomatch hy
 | .e .., _, _, hy => nomatch hy
 | .f .., _, _, hy => nomatch hy
 | .s .., _, _, hy => nomatch hy
 | .blk _, _, _, hy => nomatch hy
def GE (x : X) : Prop := ∀ (w : World) (B g : Nat) (S : List It) (st : ScM.Sc) (P : Nat → Prop) (v : Value), WK w B g S st → Sl x.len (Rd w P x).row 7 v → (∀ q, P q → q < B) → st.ct + ScM.sz x ≤ 1000000000000 → Calls Try.prog 65 #[.pointer (some ⟨g, 0, none⟩), v] w (WP w B g S (ScM.runs (ScM.sem x).2 st))
def GS (x : X) : Prop := ∀ (w : World) (B g : Nat) (S : List It) (st : ScM.Sc) (P : Nat → Prop) (v : Value), WK w B g S st → Sl x.len (Rd w P x).row 5 v → (∀ q, P q → q < B) → st.ct + ScM.sz x ≤ 1000000000000 → Calls Try.prog 41 #[.pointer (some ⟨g, 0, none⟩), v] w (WP w B g (S ++ (ScM.dc x).2.map nm) (ScM.runs (ScM.sem x).2 st))
def GB (x : X) : Prop := ∀ (w : World) (B g : Nat) (S : List It) (st : ScM.Sc) (P : Nat → Prop) (v : Value) (k : Int) (ps : List ByteArray) (pv : Value), WK w B g S st → Sl x.len (Rd w P x).row 1 v → (∀ q, P q → q < B) → NmT w B pv ps → (∀ p ∈ ps, p.size ≤ maxLen) → k = 1 ∨ k = 2 ∨ k = 3 → st.ct + (ScM.sz x + x.len * (1 + ps.length)) ≤ 1000000000000 → Calls Try.prog 66 #[.pointer (some ⟨g, 0, none⟩), .int .i64 k, pv, v] w (WP w B g S (ScM.runs ((ScM.sem x).2.map (ScM.scope k ps)) st))
/-- What is asked of an element. -/
def ScQ (x : X) : Prop := ScM.wf x → x.fit 100000 → match x with
 | .e k a n s op l f => ∀ (w : World) (B g : Nat) (S : List It) (st : ScM.Sc) (P : Nat → Prop) (v5 v6 : Value), WK w B g S st → Sl l.len (Rd w P l).row 7 v5 → Sl f.len (Rd w P f).row 2 v6 → (∀ q, P q → q < B) → st.ct + ScM.sz (.e k a n s op l f) ≤ 1000000000000 → Calls Try.prog 72 #[.pointer (some ⟨g, 0, none⟩), .agg #[.int .i64 k, .int .i64 a, .int .i64 n, .string s, .int .i64 op, v5, v6]] w (WP w B g S ((ScM.sem (.e k a n s op l f)).1 st))
 | .s k a ns l b => ∀ (w : World) (B g : Nat) (S : List It) (st : ScM.Sc) (P : Nat → Prop) (v2 v3 v4 : Value), WK w B g S st → Strs w P v2 ns → Sl l.len (Rd w P l).row 7 v3 → Sl b.len (Rd w P b).row 1 v4 → (∀ q, P q → q < B) → st.ct + ScM.sz (.s k a ns l b) ≤ 1000000000000 → Calls Try.prog 53 #[.pointer (some ⟨g, 0, none⟩), .agg (SC5 k a v2 v3 v4)] w (WP w B g (S ++ (ScM.dc (.s k a ns l b)).1.map nm) ((ScM.sem (.s k a ns l b)).1 st))
 | .f _ b => GS b
 | .blk b => GS b
 | _ => True
theorem R_fit {x y : X} {i : Nat} {st : ScM.Sc} (hw : ScM.wf x) (h : x.elems[i]? = some y) (hc : st.ct + ScM.sz x ≤ 1000000000000) : (ScM.R x i st).ct + ScM.sz y ≤ 1000000000000 := by
 have e := ScM.R_ext (fun y hy => ScM.sem_ext y (ScM.wf_elems hw y hy)) st i
 have := e.ct
 have t := ScM.tot_succ (f := ScM.sz) h
 have := ScM.tot_le ScM.sz x.elems (i + 1)
 have := ScM.sum_sz x
 omega
set_option maxRecDepth 20000 in
set_option maxHeartbeats 4000000 in
/-- exps. -/
theorem exps_row {x : X} (hw : ScM.wf x) (hf : x.fit 100000) (H : ∀ y ∈ x.elems, ScQ y) : GE x := by
 intro w B g S st P v hk h hP hc
 obtain ⟨A, c, rfl⟩ : ∃ A c, v = .slice A x.len c := by obtain ⟨A, c, e, -⟩ := h; exact ⟨A, c, e⟩
 obtain ⟨n, hn⟩ : ∃ n, x.len = n := ⟨_, rfl⟩
 rw [show (Value.slice A x.len c) = .slice A n c by rw [hn]] at h ⊢
 have HX := Lib.hid h
 have HQ := Lib.hid (fun y hy => H y hy (ScM.wf_elems hw y hy) (fit_el x hf y hy))
 have HW := Lib.hid hw
 have HN := Lib.hid hn
 have HP := Lib.hid hP
 have HC := Lib.hid hc
 have HK := Lib.hid hk
 have hl := X.fit_len x hf
 rw [hn] at hl
 have n0 : (0 : Int) ≤ (n : Int) := by omega
 have n1 : (n : Int) ≤ 100000 := by omega
 clear h H hw hf hn hP hc hk hl
 go_enter Try.func65, Try.ntmps65
 go_wp2_with fail
 go_loopw [5, 8] (fun u5 u8 wr => ∃ (i : Nat) (v : Value), u5 = v ∧ u8 = .int .i64 (i : Int) ∧ i ≤ n ∧ WK wr B g S (ScM.R x i st) ∧ Kp B true w wr) (fun _ u8 _ => (n : Int).toNat - (intOf u8).toNat)
 case atStart => exact ⟨0, undef, rfl, rfl, Nat.zero_le _, HK.out, Kp.refl _ _ _⟩
 case round =>
  obtain ⟨i, v, rfl, rfl, hi, hwk, hkp⟩ := hrel
  have WK1 := Lib.hid hwk
  have KP := Lib.hid hkp
  have i0 : (0 : Int) ≤ (i : Int) := by omega
  have wri : wrap64 ((i : Int) + 1) = (i : Int) + 1 := by unfold wrap64; omega
  clear hwk hkp
  by_cases hlt : i < n
  ·obtain ⟨p, y, v0, v1, v2, v3, v4, v5, v6, rfl, hy, ⟨c0, c1, c2, c3, c4, c5, c6⟩, rd⟩ := Sl.at7 (HX.out.kp KP.out HP.out) (by rw [HN.out]; exact hlt)
   obtain ⟨k, a, m, sv, op, l, f, w5, w6, rfl, he, sl, sf⟩ := Rd.is_e rd rfl
   simp only [Array.mk.injEq, List.cons.injEq, and_true] at he
   obtain ⟨rfl, rfl, rfl, rfl, rfl, rfl, rfl⟩ := he
   obtain ⟨A5, d5, rfl⟩ : ∃ A c, v5 = .slice A l.len c := by obtain ⟨A, c, e, -⟩ := sl; exact ⟨A, c, e⟩
   obtain ⟨A6, d6, rfl⟩ : ∃ A c, v6 = .slice A f.len c := by obtain ⟨A, c, e, -⟩ := sf; exact ⟨A, c, e⟩
   have AL := Lib.hid (Kp.of_below (b := true) ((Below.refl wr.heap.size wr).alloc (Nat.le_refl _) (.cells #[.int .i64 k, .int .i64 a, .int .i64 m, .string sv, .int .i64 op, .slice A5 l.len d5, .slice A6 f.len d6] 39)) WK1.out.base)
   have C1 := Lib.hid (HQ.out _ (List.mem_of_getElem? hy) _ B g S _ P _ _ (WK1.out.keep ((Below.refl wr.heap.size wr).alloc (Nat.le_refl _) (.cells #[.int .i64 k, .int .i64 a, .int .i64 m, .string sv, .int .i64 op, .slice A5 l.len d5, .slice A6 f.len d6] 39))) (sl.kp AL.out HP.out) (sf.kp AL.out HP.out) HP.out (R_fit HW.out hy HC.out))
   rw [← ScM.R_succ hy] at C1
   have LT := Lib.hid hlt
   have hl1 : (i : Int) < (n : Int) := by omega
   clear rd sl sf hy hlt hi
   go_wp2_with (go_at_call 72; refine C1.out.mono ?_; rintro e w1 ⟨rfl, h1, kp1⟩; have H1 := Lib.hid h1; have K1 := Lib.hid (KP.out.trans (AL.out.trans kp1)); clear h1 kp1)
   refine ⟨⟨i + 1, _, rfl, ?_, LT.out, H1.out, K1.out⟩, ?_⟩
   ·first | rfl | exact congrArg (Value.int .i64) (wri.trans (by omega))
   ·have := LT.out; simp only [intOf]; omega
  ·have hl1 : ¬ (i : Int) < (n : Int) := by omega
   have RE1 := Lib.hid (ScM.R_end (x := x) (i := i) (by rw [HN.out]; omega) st)
   clear hlt hi
   go_wp2_with fail
   go_end0
   have k := WK1.out
   rw [RE1.out] at k
   exact ⟨rfl, k, KP.out⟩
set_option maxRecDepth 20000 in
set_option maxHeartbeats 4000000 in
/-- stats. -/
theorem stats_row {x : X} (hw : ScM.wf x) (hf : x.fit 100000) (H : ∀ y ∈ x.elems, ScQ y) : GS x := by
 intro w B g S st P v hk h hP hc
 obtain ⟨A, c, rfl⟩ : ∃ A c, v = .slice A x.len c := by obtain ⟨A, c, e, -⟩ := h; exact ⟨A, c, e⟩
 obtain ⟨n, hn⟩ : ∃ n, x.len = n := ⟨_, rfl⟩
 rw [show (Value.slice A x.len c) = .slice A n c by rw [hn]] at h ⊢
 have HX := Lib.hid h
 have HQ := Lib.hid (fun y hy => H y hy (ScM.wf_elems hw y hy) (fit_el x hf y hy))
 have HW := Lib.hid hw
 have HN := Lib.hid hn
 have HP := Lib.hid hP
 have HC := Lib.hid hc
 have HK := Lib.hid hk
 have hl := X.fit_len x hf
 rw [hn] at hl
 have n0 : (0 : Int) ≤ (n : Int) := by omega
 have n1 : (n : Int) ≤ 100000 := by omega
 clear h H hw hf hn hP hc hk hl
 go_enter Try.func41, Try.ntmps41
 go_wp2_with fail
 go_loopw [5, 8] (fun u5 u8 wr => ∃ (i : Nat) (v : Value), u5 = v ∧ u8 = .int .i64 (i : Int) ∧ i ≤ n ∧ WK wr B g (S ++ (ScM.dcI x i).map nm) (ScM.R x i st) ∧ Kp B true w wr) (fun _ u8 _ => (n : Int).toNat - (intOf u8).toNat)
 case atStart => exact ⟨0, undef, rfl, rfl, Nat.zero_le _, by rw [ScM.dcI_zero, List.map_nil, List.append_nil]; exact HK.out, Kp.refl _ _ _⟩
 case round =>
  obtain ⟨i, v, rfl, rfl, hi, hwk, hkp⟩ := hrel
  have WK1 := Lib.hid hwk
  have KP := Lib.hid hkp
  have i0 : (0 : Int) ≤ (i : Int) := by omega
  have wri : wrap64 ((i : Int) + 1) = (i : Int) + 1 := by unfold wrap64; omega
  clear hwk hkp
  by_cases hlt : i < n
  ·obtain ⟨p, y, v0, v1, v2, v3, v4, rfl, hy, ⟨c0, c1, c2, c3, c4⟩, rd⟩ := Sl.at5 (HX.out.kp KP.out HP.out) (by rw [HN.out]; exact hlt)
   obtain ⟨k, a, ns, l, b, w2, w3, w4, rfl, he, sn, sl, sb⟩ := Rd.is_s rd rfl
   simp only [Array.mk.injEq, List.cons.injEq, and_true] at he
   obtain ⟨rfl, rfl, rfl, rfl, rfl⟩ := he
   obtain ⟨A2, d2, rfl⟩ : ∃ A c, v2 = .slice A ns.length c := by obtain ⟨A, c, e, -⟩ := sn; exact ⟨A, c, e⟩
   obtain ⟨A3, d3, rfl⟩ : ∃ A c, v3 = .slice A l.len c := by obtain ⟨A, c, e, -⟩ := sl; exact ⟨A, c, e⟩
   obtain ⟨A4, d4, rfl⟩ : ∃ A c, v4 = .slice A b.len c := by obtain ⟨A, c, e, -⟩ := sb; exact ⟨A, c, e⟩
   have AL := Lib.hid (Kp.of_below (b := true) ((Below.refl wr.heap.size wr).alloc (Nat.le_refl _) (.cells #[.int .i64 k, .int .i64 a, .slice A2 ns.length d2, .slice A3 l.len d3, .slice A4 b.len d4] 42)) WK1.out.base)
   have C1 := Lib.hid (HQ.out _ (List.mem_of_getElem? hy) _ B g _ _ P _ _ _ (WK1.out.keep ((Below.refl wr.heap.size wr).alloc (Nat.le_refl _) (.cells #[.int .i64 k, .int .i64 a, .slice A2 ns.length d2, .slice A3 l.len d3, .slice A4 b.len d4] 42))) (sn.kp AL.out HP.out) (sl.kp AL.out HP.out) (sb.kp AL.out HP.out) HP.out (R_fit HW.out hy HC.out))
   rw [← ScM.R_succ hy, List.append_assoc, ← List.map_append, ← ScM.dcI_succ hy] at C1
   have LT := Lib.hid hlt
   have hl1 : (i : Int) < (n : Int) := by omega
   clear rd sn sl sb hy hlt hi
   go_wp2_with (go_at_call 53; refine C1.out.mono ?_; rintro e w1 ⟨rfl, h1, kp1⟩; have H1 := Lib.hid h1; have K1 := Lib.hid (KP.out.trans (AL.out.trans kp1)); clear h1 kp1)
   refine ⟨⟨i + 1, _, rfl, ?_, LT.out, H1.out, K1.out⟩, ?_⟩
   ·first | rfl | exact congrArg (Value.int .i64) (wri.trans (by omega))
   ·have := LT.out; simp only [intOf]; omega
  ·have hl1 : ¬ (i : Int) < (n : Int) := by omega
   have RE1 := Lib.hid (ScM.R_end (x := x) (i := i) (by rw [HN.out]; omega) st)
   have DE1 := Lib.hid (ScM.dcI_end (x := x) (i := i) (by rw [HN.out]; omega))
   clear hlt hi
   go_wp2_with fail
   go_end0
   have k := WK1.out
   rw [RE1.out, DE1.out] at k
   exact ⟨rfl, k, KP.out⟩
set_option maxRecDepth 20000 in
set_option maxHeartbeats 4000000 in
/-- scope. -/
theorem scope_s {b : X} (hb : GS b) (hw : ScM.wf b) {w : World} {B g : Nat} {S : List It} {st : ScM.Sc} {P : Nat → Prop} {v pv : Value} {k : Int} {ps : List ByteArray} (hk : WK w B g S st) (h : Sl b.len (Rd w P b).row 5 v) (hP : ∀ q, P q → q < B) (hn : Nms w B pv ps) (hsz : ∀ p ∈ ps, p.size ≤ maxLen) (hkk : k = 1 ∨ k = 2 ∨ k = 3) (hc : st.ct + (1 + ps.length + ScM.sz b) ≤ 1000000000000) :
  Calls Try.prog 19 #[.pointer (some ⟨g, 0, none⟩), .int .i64 k, pv, v] w (WP w B g S (ScM.scope k ps (ScM.runs (ScM.sem b).2) st)) := by
 obtain ⟨vi, vo, mb, ob, hr⟩ := hk
 have HR := Lib.hid hr
 have HH := Lib.hid h
 have HP := Lib.hid hP
 have HN := Lib.hid hn
 have HKK := Lib.hid hkk
 have E1 := Lib.hid (enter_s hr k hkk (by omega))
 have DL := Lib.hid (fun (w1 : World) (h1 : WK w1 B g (S ++ [⟨k, ⟨#[]⟩, st.own, st.loops⟩]) (ScM.enter k st)) (n1 : Nms w1 B pv ps) => declare_s h1 n1 hsz (show st.ct + 1 + ps.length ≤ 1000000000000 by omega))
 have ST := Lib.hid (fun (w2 : World) (h2 : WK w2 B g (S ++ [⟨k, ⟨#[]⟩, st.own, st.loops⟩] ++ ps.map nm) (ScM.declare ps (ScM.enter k st))) (s2 : Sl b.len (Rd w2 P b).row 5 v) => hb w2 B g _ _ P v h2 s2 hP (show st.ct + 1 + ps.length + ScM.sz b ≤ 1000000000000 by omega))
 have X3 := Lib.hid (ScM.R_all (fun y hy => ScM.sem_ext y (ScM.wf_elems hw y hy)) (ScM.declare ps (ScM.enter k st)))
 obtain ⟨st3, h3⟩ : ∃ st3, ScM.runs (ScM.sem b).2 (ScM.declare ps (ScM.enter k st)) = st3 := ⟨_, rfl⟩
 rw [h3] at ST X3
 have SC := Lib.hid (show ScM.scope k ps (ScM.runs (ScM.sem b).2) st = ScM.back st st3 by unfold ScM.scope; rw [h3])
 obtain ⟨A, c, rfl⟩ : ∃ A c, v = .slice A b.len c := by obtain ⟨A, c, e, -⟩ := h; exact ⟨A, c, e⟩
 obtain ⟨A2, c2, rfl⟩ := hn.slice
 clear hr h hP hn hkk hsz hc h3
 go_enter Try.func19, Try.ntmps19
 go_wp2_with (first
  |(go_at_call 39; refine E1.out.mono ?_; rintro e w1 ⟨rfl, h1, kp1⟩; have D1 := Lib.hid (DL.out w1 h1 (HN.out.kp kp1)); have K1 := Lib.hid kp1; clear h1 kp1)
  |(go_at_call 40; refine D1.out.mono ?_; rintro e w2 ⟨rfl, h2, kp2⟩; have K2 := Lib.hid (K1.out.trans kp2); have S1 := Lib.hid (ST.out w2 h2 (HH.out.kp K2.out HP.out)); clear h2 kp2)
  |(go_at_call 41; refine S1.out.mono ?_; rintro e w3 ⟨rfl, h3, kp3⟩; have K3 := Lib.hid (K2.out.weak.trans kp3); rw [List.append_assoc, ← List.map_append] at h3; have L1 := Lib.hid (leave_s h3 HKK.out (Nat.le_trans HR.out.own (Nat.le_trans (show st.ct ≤ st.ct + 1 + ps.length by omega) X3.out.lo)) (Nat.le_trans HR.out.loops (Nat.le_trans (show st.ct ≤ st.ct + 1 + ps.length by omega) X3.out.lo)) (by rw [List.length_append, X3.out.own]; show _ ≤ (ScM.enter k st).own + ps.length + _; omega) (fun e => by rw [X3.out.loops]; show 1 ≤ (ScM.enter k st).loops; simp [ScM.enter, e])); clear h3 kp3)
  |(go_at_call 42; refine L1.out.mono ?_; rintro e w4 ⟨rfl, h4, kp4⟩; have H4 := Lib.hid h4; have K4 := Lib.hid (K3.out.trans kp4.weak); clear h4 kp4))
 go_end0
 rw [SC.out]
 have e : ScM.back st st3 = { st3 with names := vis S, own := if k = 3 then st.own else st3.own - (ps ++ (ScM.dc b).2).length, loops := if k = 2 then st3.loops - 1 else if k = 3 then st.loops else st3.loops } := by
  unfold ScM.back
  rw [HR.out.names, X3.out.own, X3.out.loops, List.length_append]
  simp only [ScM.declare, ScM.enter]
  rcases HKK.out with rfl | rfl | rfl
  ·simp only [ScM.Sc.mk.injEq, true_and, and_true]; refine ⟨?_, ?_⟩ <;> simp <;> omega
  ·simp only [ScM.Sc.mk.injEq, true_and, and_true]; refine ⟨?_, ?_⟩ <;> simp <;> omega
  ·simp
 rw [e]
 exact ⟨rfl, H4.out, K4.out⟩
end Go.Proofs.Yteakhlnnepjhpaa
