/- Package scope: the walker: a statement, kind by kind (printed by genscL.py); the whole walk by induction over the tree. -/
import Derived.Test.YteakhlnnepjhpaaScKx
import Derived.Deep.RegionLaw
namespace Go.Proofs.Yteakhlnnepjhpaa
open Go.RowKit PrM
set_option linter.unusedVariables false
set_option linter.unusedSimpArgs false
theorem drewKp {w w' : World} {B : Nat} {b : Bool} (k : Kp B b w w') : Kp B b w w'.drew := k.drew
theorem WK.drew {w : World} {B g : Nat} {S : List It} {st : ScM.Sc} (h : WK w B g S st) : WK w.drew B g S st := by
 obtain ⟨vi, vo, mb, ob, h⟩ := h
 exact ⟨_, _, _, _, h.drew⟩
theorem GE.calm {l : X} (wl : ScM.wf l) (rl : ScM.row 7 l) (st : ScM.Sc) : (ScM.runs (ScM.sem l).2 st).ct ≤ st.ct + ScM.sz l := (ScM.R_calm_all (fun y hy => ScM.sem_ext y (ScM.wf_elems wl y hy)) rl (.inl rfl) st).ct
/-- What a statement's parts are asked. -/
structure Pt (l b : X) : Prop where
 wl : ScM.wf l
 wb : ScM.wf b
 rl : ScM.row 7 l
 rb : ScM.row 1 b
 fl : l.fit 100000
 fb : b.fit 100000
 hl : ∀ y ∈ l.elems, ScQ y
 hb : ∀ y ∈ b.elems, ScQ y
theorem Pt.ge {l b : X} (p : Pt l b) : GE l := exps_row p.wl p.fl p.hl
theorem Pt.gb {l b : X} (p : Pt l b) : GB b := scopes_row p.wb p.rb p.fb p.hb
set_option maxRecDepth 20000 in
set_option maxHeartbeats 4000000 in
theorem wst_local {l b : X} (p : Pt l b) {w : World} {B g : Nat} {S : List It} {st : ScM.Sc} {P : Nat → Prop} {a : Int} {ns : List ByteArray} {v2 v3 v4 : Value} (hk : WK w B g S st) (sn : Strs w P v2 ns) (sl : Sl l.len (Rd w P l).row 7 v3) (sb : Sl b.len (Rd w P b).row 1 v4) (hP : ∀ q, P q → q < B) (hns : ns.length ≤ 100000) (hsz : ∀ p ∈ ns, p.size ≤ maxLen) (hc : st.ct + (1 + ns.length + ScM.sz l + ScM.sz b + b.len * (1 + ns.length)) ≤ 1000000000000) :
  Calls Try.prog 53 #[.pointer (some ⟨g, 0, none⟩), .agg (SC5 1 a v2 v3 v4)] w (WP w B g (S ++ ns.map nm) (ScM.declare ns (ScM.parts (ScM.sem l).2 (ScM.sem b).2 (ScM.limit ns a st)))) := by
 obtain ⟨A2, c2, rfl⟩ : ∃ A c, v2 = .slice A ns.length c := by obtain ⟨A, c, e, -⟩ := sn; exact ⟨A, c, e⟩
 obtain ⟨A3, c3, rfl⟩ : ∃ A c, v3 = .slice A l.len c := by obtain ⟨A, c, e, -⟩ := sl; exact ⟨A, c, e⟩
 obtain ⟨A4, c4, rfl⟩ : ∃ A c, v4 = .slice A b.len c := by obtain ⟨A, c, e, -⟩ := sb; exact ⟨A, c, e⟩
 have m1 : b.len * 1 ≤ b.len * (1 + ns.length) := Nat.mul_le_mul (Nat.le_refl _) (by omega)
 have bel := (Below.refl w.heap.size w).alloc (Nat.le_refl _) (SB 1 a (.slice A2 ns.length c2) (.slice A3 l.len c3) (.slice A4 b.len c4))
 have K0 := Lib.hid (Kp.of_below (b := true) bel hk.base)
 have X0 := Lib.hid (Blk.new w (SC5 1 a (.slice A2 ns.length c2) (.slice A3 l.len c3) (.slice A4 b.len c4)) 42)
 have W0 := Lib.hid (hk.keep bel)
 have HP := Lib.hid hP
 have SN := Lib.hid (fun (w1 : World) (kq : Kp B true w w1) => sn.kp kq hP)
 have SL := Lib.hid (fun (w1 : World) (kq : Kp B true w w1) => sl.kp kq hP)
 have SBB := Lib.hid (fun (w1 : World) (kq : Kp B true w w1) => sb.kp kq hP)
 have PP := Lib.hid p
 have HSZ := Lib.hid hsz
 have C1 := Lib.hid (limit_s W0.out 1 a ns ns.length A2 c2 (.slice A3 l.len c3) (.slice A4 b.len c4) rfl (by omega))
 have CP := Lib.hid (fun (w1 : World) (kq : Kp B true w w1) (h : WK w1 B g S (ScM.limit ns a st)) => parts_s (k := 1) (a := a) (vn := .slice A2 ns.length c2) PP.out.ge PP.out.gb PP.out.wl PP.out.rl h (SL.out w1 kq) (SBB.out w1 kq) HP.out (by have := (ScM.limit_ext ns a st).ct; omega) ⟨_, _, _, rfl⟩)
 have DL := Lib.hid (fun (w1 : World) (kq : Kp B true w w1) (h : WK w1 B g S (ScM.parts (ScM.sem l).2 (ScM.sem b).2 (ScM.limit ns a st))) => declare_s h ((SN.out w1 kq).nms HP.out) HSZ.out (by have := ((ScM.limit_ext ns a st).trans (ScM.parts_ext (fun y hy => ScM.sem_ext y (ScM.wf_elems p.wl y hy)) (fun y hy => ScM.sem_ext y (ScM.wf_elems p.wb y hy)) p.rl p.rb (ScM.limit ns a st))).ct; omega))
 clear hk sn sl sb hP hns hsz hc m1 bel p
 obtain ⟨⟨b0, b1, b2, b3, b4⟩, -⟩ := X0.out.five
 go_enter Try.func53, Try.ntmps53
 go_wp2_with (first
  |(go_at_call 61; refine C1.out.mono ?_; rintro e w1 ⟨rfl, h, kp⟩; have W1 := Lib.hid h; have K1 := Lib.hid (K0.out.trans kp); have X1 := Lib.hid (kp.blk _ _ _ X0.out (by decide) (by decide) (fun _ => by decide)); clear h kp b0 b1 b2 b3 b4; obtain ⟨⟨b0, b1, b2, b3, b4⟩, -⟩ := X1.out.five; have D1 := Lib.hid (CP.out w1 K1.out W1.out))
  |(go_at_call 62; refine D1.out.mono ?_; rintro e w2 ⟨rfl, h, kp⟩; have W2 := Lib.hid h; have K2 := Lib.hid (K1.out.trans kp); have X2 := Lib.hid (kp.blk _ _ _ X1.out (by decide) (by decide) (fun _ => by decide)); clear h kp b0 b1 b2 b3 b4; obtain ⟨⟨b0, b1, b2, b3, b4⟩, -⟩ := X2.out.five; have D3 := Lib.hid (DL.out w2.drew K2.out.drew W2.out.drew)))
 go_region_law (first | (go_simp; go_at_call 40; refine D3.out.mono ?_; rintro e w3 ⟨rfl, h, kp⟩; have W3 := Lib.hid h; have K3 := Lib.hid (K2.out.drew.trans kp.weak); have X3 := Lib.hid (kp.blk _ _ _ (show Blk w2.drew _ _ _ from X2.out) (by decide) (by decide) (fun q => absurd q (by decide))); clear h kp b0 b1 b2 b3 b4; obtain ⟨⟨b0, b1, b2, b3, b4⟩, -⟩ := X3.out.five))
 all_goals
  go_wp2_with fail
  go_end0
  exact ⟨rfl, W3.out, K3.out⟩
set_option maxRecDepth 20000 in
set_option maxHeartbeats 4000000 in
theorem wst_func {l b : X} (p : Pt l b) {w : World} {B g : Nat} {S : List It} {st : ScM.Sc} {P : Nat → Prop} {a : Int} {ns : List ByteArray} {v2 v3 v4 : Value} (hk : WK w B g S st) (sn : Strs w P v2 ns) (sl : Sl l.len (Rd w P l).row 7 v3) (sb : Sl b.len (Rd w P b).row 1 v4) (hP : ∀ q, P q → q < B) (hns : ns.length ≤ 100000) (hsz : ∀ p ∈ ns, p.size ≤ maxLen) (hc : st.ct + (1 + ns.length + ScM.sz l + ScM.sz b + b.len * (1 + ns.length)) ≤ 1000000000000) :
  Calls Try.prog 53 #[.pointer (some ⟨g, 0, none⟩), .agg (SC5 12 a v2 v3 v4)] w (WP w B g (S ++ ns.map nm) (ScM.parts (ScM.sem l).2 (ScM.sem b).2 (ScM.declare ns (ScM.limit ns a st)))) := by
 obtain ⟨A2, c2, rfl⟩ : ∃ A c, v2 = .slice A ns.length c := by obtain ⟨A, c, e, -⟩ := sn; exact ⟨A, c, e⟩
 obtain ⟨A3, c3, rfl⟩ : ∃ A c, v3 = .slice A l.len c := by obtain ⟨A, c, e, -⟩ := sl; exact ⟨A, c, e⟩
 obtain ⟨A4, c4, rfl⟩ : ∃ A c, v4 = .slice A b.len c := by obtain ⟨A, c, e, -⟩ := sb; exact ⟨A, c, e⟩
 have m1 : b.len * 1 ≤ b.len * (1 + ns.length) := Nat.mul_le_mul (Nat.le_refl _) (by omega)
 have bel := (Below.refl w.heap.size w).alloc (Nat.le_refl _) (SB 12 a (.slice A2 ns.length c2) (.slice A3 l.len c3) (.slice A4 b.len c4))
 have K0 := Lib.hid (Kp.of_below (b := true) bel hk.base)
 have X0 := Lib.hid (Blk.new w (SC5 12 a (.slice A2 ns.length c2) (.slice A3 l.len c3) (.slice A4 b.len c4)) 42)
 have W0 := Lib.hid (hk.keep bel)
 have HP := Lib.hid hP
 have SN := Lib.hid (fun (w1 : World) (kq : Kp B true w w1) => sn.kp kq hP)
 have SL := Lib.hid (fun (w1 : World) (kq : Kp B true w w1) => sl.kp kq hP)
 have SBB := Lib.hid (fun (w1 : World) (kq : Kp B true w w1) => sb.kp kq hP)
 have PP := Lib.hid p
 have HSZ := Lib.hid hsz
 have C1 := Lib.hid (limit_s W0.out 12 a ns ns.length A2 c2 (.slice A3 l.len c3) (.slice A4 b.len c4) rfl (by omega))
 have DL := Lib.hid (fun (w1 : World) (kq : Kp B true w w1) (h : WK w1 B g S (ScM.limit ns a st)) => declare_s h ((SN.out w1 kq).nms HP.out) HSZ.out (by have := (ScM.limit_ext ns a st).ct; omega))
 have CP := Lib.hid (fun (w1 : World) (kq : Kp B true w w1) (h : WK w1 B g (S ++ ns.map nm) (ScM.declare ns (ScM.limit ns a st))) => parts_s (k := 12) (a := a) (vn := .slice A2 ns.length c2) PP.out.ge PP.out.gb PP.out.wl PP.out.rl h (SL.out w1 kq) (SBB.out w1 kq) HP.out (by have := ((ScM.limit_ext ns a st).trans (ScM.declare_ext ns _)).ct; omega) ⟨_, _, _, rfl⟩)
 clear hk sn sl sb hP hns hsz hc m1 bel p
 obtain ⟨⟨b0, b1, b2, b3, b4⟩, -⟩ := X0.out.five
 go_enter Try.func53, Try.ntmps53
 go_wp2_with (first
  |(go_at_call 61; refine C1.out.mono ?_; rintro e w1 ⟨rfl, h, kp⟩; have W1 := Lib.hid h; have K1 := Lib.hid (K0.out.trans kp); have X1 := Lib.hid (kp.blk _ _ _ X0.out (by decide) (by decide) (fun _ => by decide)); clear h kp b0 b1 b2 b3 b4; obtain ⟨⟨b0, b1, b2, b3, b4⟩, -⟩ := X1.out.five; have D2 := Lib.hid (DL.out w1.drew K1.out.drew W1.out.drew)))
 go_region_law (first | (go_simp; go_at_call 40; refine D2.out.mono ?_; rintro e w2 ⟨rfl, h, kp⟩; have W2 := Lib.hid h; have K2 := Lib.hid (K1.out.drew.trans kp.weak); have X2 := Lib.hid (kp.blk _ _ _ (show Blk w1.drew _ _ _ from X1.out) (by decide) (by decide) (fun q => absurd q (by decide))); clear h kp b0 b1 b2 b3 b4; obtain ⟨⟨b0, b1, b2, b3, b4⟩, -⟩ := X2.out.five))
 all_goals
  have D3 := Lib.hid (CP.out w2 K2.out W2.out)
  go_wp2_with (first
   |(go_at_call 62; refine D3.out.mono ?_; rintro e w3 ⟨rfl, h, kp⟩; have HZ := Lib.hid h; have KZ := Lib.hid (K2.out.trans kp); clear h kp))
 go_end0
 exact ⟨rfl, HZ.out, KZ.out⟩
set_option maxRecDepth 20000 in
set_option maxHeartbeats 4000000 in
theorem wst_set {l b : X} (p : Pt l b) {w : World} {B g : Nat} {S : List It} {st : ScM.Sc} {P : Nat → Prop} {a : Int} {ns : List ByteArray} {v2 v3 v4 : Value} (hk : WK w B g S st) (sn : Strs w P v2 ns) (sl : Sl l.len (Rd w P l).row 7 v3) (sb : Sl b.len (Rd w P b).row 1 v4) (hP : ∀ q, P q → q < B) (hns : ns.length ≤ 100000) (hsz : ∀ p ∈ ns, p.size ≤ maxLen) (hc : st.ct + (1 + ns.length + ScM.sz l + ScM.sz b + b.len * (1 + ns.length)) ≤ 1000000000000) :
  Calls Try.prog 53 #[.pointer (some ⟨g, 0, none⟩), .agg (SC5 2 a v2 v3 v4)] w (WP w B g S (ScM.parts (ScM.sem l).2 (ScM.sem b).2 (ScM.target l st))) := by
 obtain ⟨A2, c2, rfl⟩ : ∃ A c, v2 = .slice A ns.length c := by obtain ⟨A, c, e, -⟩ := sn; exact ⟨A, c, e⟩
 obtain ⟨A3, c3, rfl⟩ : ∃ A c, v3 = .slice A l.len c := by obtain ⟨A, c, e, -⟩ := sl; exact ⟨A, c, e⟩
 obtain ⟨A4, c4, rfl⟩ : ∃ A c, v4 = .slice A b.len c := by obtain ⟨A, c, e, -⟩ := sb; exact ⟨A, c, e⟩
 have m1 : b.len * 1 ≤ b.len * (1 + ns.length) := Nat.mul_le_mul (Nat.le_refl _) (by omega)
 have bel := (Below.refl w.heap.size w).alloc (Nat.le_refl _) (SB 2 a (.slice A2 ns.length c2) (.slice A3 l.len c3) (.slice A4 b.len c4))
 have K0 := Lib.hid (Kp.of_below (b := true) bel hk.base)
 have X0 := Lib.hid (Blk.new w (SC5 2 a (.slice A2 ns.length c2) (.slice A3 l.len c3) (.slice A4 b.len c4)) 42)
 have W0 := Lib.hid (hk.keep bel)
 have HP := Lib.hid hP
 have SN := Lib.hid (fun (w1 : World) (kq : Kp B true w w1) => sn.kp kq hP)
 have SL := Lib.hid (fun (w1 : World) (kq : Kp B true w w1) => sl.kp kq hP)
 have SBB := Lib.hid (fun (w1 : World) (kq : Kp B true w w1) => sb.kp kq hP)
 have PP := Lib.hid p
 have HSZ := Lib.hid hsz
 have C1 := Lib.hid (target_s W0.out 2 a l l.len A3 c3 (.slice A2 ns.length c2) (.slice A4 b.len c4) (SL.out _ K0.out) (fun y hy k a m s op q f e => by subst e; exact Nat.le_trans (fit_el l p.fl _ hy).2 (by decide)))
 have CP := Lib.hid (fun (w1 : World) (kq : Kp B true w w1) (h : WK w1 B g S (ScM.target l st)) => parts_s (k := 2) (a := a) (vn := .slice A2 ns.length c2) PP.out.ge PP.out.gb PP.out.wl PP.out.rl h (SL.out w1 kq) (SBB.out w1 kq) HP.out (by have := (ScM.target_ext l st).ct; omega) ⟨_, _, _, rfl⟩)
 clear hk sn sl sb hP hns hsz hc m1 bel p
 obtain ⟨⟨b0, b1, b2, b3, b4⟩, -⟩ := X0.out.five
 go_enter Try.func53, Try.ntmps53
 go_wp2_with (first
  |(go_at_call 63; refine C1.out.mono ?_; rintro e w1 ⟨rfl, h, kp⟩; have W1 := Lib.hid h; have K1 := Lib.hid (K0.out.trans kp); have X1 := Lib.hid (kp.blk _ _ _ X0.out (by decide) (by decide) (fun _ => by decide)); clear h kp b0 b1 b2 b3 b4; obtain ⟨⟨b0, b1, b2, b3, b4⟩, -⟩ := X1.out.five; have D1 := Lib.hid (CP.out w1 K1.out W1.out))
  |(go_at_call 62; refine D1.out.mono ?_; rintro e w2 ⟨rfl, h, kp⟩; have HZ := Lib.hid h; have KZ := Lib.hid (K1.out.trans kp); clear h kp))
 go_end0
 exact ⟨rfl, HZ.out, KZ.out⟩
set_option maxRecDepth 20000 in
set_option maxHeartbeats 4000000 in
theorem wst_if {l b : X} (p : Pt l b) {w : World} {B g : Nat} {S : List It} {st : ScM.Sc} {P : Nat → Prop} {a : Int} {ns : List ByteArray} {v2 v3 v4 : Value} (hk : WK w B g S st) (sn : Strs w P v2 ns) (sl : Sl l.len (Rd w P l).row 7 v3) (sb : Sl b.len (Rd w P b).row 1 v4) (hP : ∀ q, P q → q < B) (hns : ns.length ≤ 100000) (hsz : ∀ p ∈ ns, p.size ≤ maxLen) (hc : st.ct + (1 + ns.length + ScM.sz l + ScM.sz b + b.len * (1 + ns.length)) ≤ 1000000000000) :
  Calls Try.prog 53 #[.pointer (some ⟨g, 0, none⟩), .agg (SC5 4 a v2 v3 v4)] w (WP w B g S (ScM.CS l b (max l.len b.len) st)) := by
 obtain ⟨A2, c2, rfl⟩ : ∃ A c, v2 = .slice A ns.length c := by obtain ⟨A, c, e, -⟩ := sn; exact ⟨A, c, e⟩
 obtain ⟨A3, c3, rfl⟩ : ∃ A c, v3 = .slice A l.len c := by obtain ⟨A, c, e, -⟩ := sl; exact ⟨A, c, e⟩
 obtain ⟨A4, c4, rfl⟩ : ∃ A c, v4 = .slice A b.len c := by obtain ⟨A, c, e, -⟩ := sb; exact ⟨A, c, e⟩
 have m1 : b.len * 1 ≤ b.len * (1 + ns.length) := Nat.mul_le_mul (Nat.le_refl _) (by omega)
 have bel := (Below.refl w.heap.size w).alloc (Nat.le_refl _) (SB 4 a (.slice A2 ns.length c2) (.slice A3 l.len c3) (.slice A4 b.len c4))
 have K0 := Lib.hid (Kp.of_below (b := true) bel hk.base)
 have X0 := Lib.hid (Blk.new w (SC5 4 a (.slice A2 ns.length c2) (.slice A3 l.len c3) (.slice A4 b.len c4)) 42)
 have W0 := Lib.hid (hk.keep bel)
 have HP := Lib.hid hP
 have SN := Lib.hid (fun (w1 : World) (kq : Kp B true w w1) => sn.kp kq hP)
 have SL := Lib.hid (fun (w1 : World) (kq : Kp B true w w1) => sl.kp kq hP)
 have SBB := Lib.hid (fun (w1 : World) (kq : Kp B true w w1) => sb.kp kq hP)
 have PP := Lib.hid p
 have HSZ := Lib.hid hsz
 have C1 := Lib.hid (cases_s (k := 4) (a := a) p.wl p.wb p.rl p.rb p.fl p.fb p.hl p.hb W0.out (SL.out _ K0.out) (SBB.out _ K0.out) hP (by omega) ⟨A2, ns.length, c2, rfl⟩)
 clear hk sn sl sb hP hns hsz hc m1 bel p
 obtain ⟨⟨b0, b1, b2, b3, b4⟩, -⟩ := X0.out.five
 go_enter Try.func53, Try.ntmps53
 go_wp2_with (first
  |(go_at_call 64; refine C1.out.mono ?_; rintro e w1 ⟨rfl, h, kp⟩; have HZ := Lib.hid h; have KZ := Lib.hid (K0.out.trans kp); clear h kp))
 go_end0
 exact ⟨rfl, HZ.out, KZ.out⟩
set_option maxRecDepth 20000 in
set_option maxHeartbeats 4000000 in
theorem wst_while {l b : X} (p : Pt l b) {w : World} {B g : Nat} {S : List It} {st : ScM.Sc} {P : Nat → Prop} {a : Int} {ns : List ByteArray} {v2 v3 v4 : Value} (hk : WK w B g S st) (sn : Strs w P v2 ns) (sl : Sl l.len (Rd w P l).row 7 v3) (sb : Sl b.len (Rd w P b).row 1 v4) (hP : ∀ q, P q → q < B) (hns : ns.length ≤ 100000) (hsz : ∀ p ∈ ns, p.size ≤ maxLen) (hc : st.ct + (1 + ns.length + ScM.sz l + ScM.sz b + b.len * (1 + ns.length)) ≤ 1000000000000) :
  Calls Try.prog 53 #[.pointer (some ⟨g, 0, none⟩), .agg (SC5 5 a v2 v3 v4)] w (WP w B g S (ScM.runs ((ScM.sem b).2.map (ScM.scope 2 [])) (ScM.runs (ScM.sem l).2 st))) := by
 obtain ⟨A2, c2, rfl⟩ : ∃ A c, v2 = .slice A ns.length c := by obtain ⟨A, c, e, -⟩ := sn; exact ⟨A, c, e⟩
 obtain ⟨A3, c3, rfl⟩ : ∃ A c, v3 = .slice A l.len c := by obtain ⟨A, c, e, -⟩ := sl; exact ⟨A, c, e⟩
 obtain ⟨A4, c4, rfl⟩ : ∃ A c, v4 = .slice A b.len c := by obtain ⟨A, c, e, -⟩ := sb; exact ⟨A, c, e⟩
 have m1 : b.len * 1 ≤ b.len * (1 + ns.length) := Nat.mul_le_mul (Nat.le_refl _) (by omega)
 have bel := (Below.refl w.heap.size w).alloc (Nat.le_refl _) (SB 5 a (.slice A2 ns.length c2) (.slice A3 l.len c3) (.slice A4 b.len c4))
 have K0 := Lib.hid (Kp.of_below (b := true) bel hk.base)
 have X0 := Lib.hid (Blk.new w (SC5 5 a (.slice A2 ns.length c2) (.slice A3 l.len c3) (.slice A4 b.len c4)) 42)
 have W0 := Lib.hid (hk.keep bel)
 have HP := Lib.hid hP
 have SN := Lib.hid (fun (w1 : World) (kq : Kp B true w w1) => sn.kp kq hP)
 have SL := Lib.hid (fun (w1 : World) (kq : Kp B true w w1) => sl.kp kq hP)
 have SBB := Lib.hid (fun (w1 : World) (kq : Kp B true w w1) => sb.kp kq hP)
 have PP := Lib.hid p
 have HSZ := Lib.hid hsz
 have C1 := Lib.hid (p.ge _ B g S st P _ W0.out (SL.out _ K0.out) hP (by omega))
 have CS1 := Lib.hid (fun (w1 : World) (kq : Kp B true w w1) (h : WK w1 B g S (ScM.runs (ScM.sem l).2 st)) => PP.out.gb w1 B g S _ P _ 2 [] (.slice none 0 0) h (SBB.out w1 kq) HP.out (nmt_nil w1 B) (fun p hp => nomatch hp) (.inr (.inl rfl)) (by have := GE.calm p.wl p.rl st; show _ + (_ + b.len * 1) ≤ _; omega))
 clear hk sn sl sb hP hns hsz hc m1 bel p
 obtain ⟨⟨b0, b1, b2, b3, b4⟩, -⟩ := X0.out.five
 go_enter Try.func53, Try.ntmps53
 go_wp2_with (first
  |(go_at_call 65; refine C1.out.mono ?_; rintro e w1 ⟨rfl, h, kp⟩; have W1 := Lib.hid h; have K1 := Lib.hid (K0.out.trans kp); have X1 := Lib.hid (kp.blk _ _ _ X0.out (by decide) (by decide) (fun _ => by decide)); clear h kp b0 b1 b2 b3 b4; obtain ⟨⟨b0, b1, b2, b3, b4⟩, -⟩ := X1.out.five; have D1 := Lib.hid (CS1.out w1 K1.out W1.out))
  |(go_at_call 66; refine D1.out.mono ?_; rintro e w2 ⟨rfl, h, kp⟩; have HZ := Lib.hid h; have KZ := Lib.hid (K1.out.trans kp); clear h kp))
 go_end0
 exact ⟨rfl, HZ.out, KZ.out⟩
set_option maxRecDepth 20000 in
set_option maxHeartbeats 4000000 in
theorem wst_for {l b : X} (p : Pt l b) {w : World} {B g : Nat} {S : List It} {st : ScM.Sc} {P : Nat → Prop} {a : Int} {ns : List ByteArray} {v2 v3 v4 : Value} (hk : WK w B g S st) (sn : Strs w P v2 ns) (sl : Sl l.len (Rd w P l).row 7 v3) (sb : Sl b.len (Rd w P b).row 1 v4) (hP : ∀ q, P q → q < B) (hns : ns.length ≤ 100000) (hsz : ∀ p ∈ ns, p.size ≤ maxLen) (hc : st.ct + (1 + ns.length + ScM.sz l + ScM.sz b + b.len * (1 + ns.length)) ≤ 1000000000000) :
  Calls Try.prog 53 #[.pointer (some ⟨g, 0, none⟩), .agg (SC5 6 a v2 v3 v4)] w (WP w B g S (ScM.runs ((ScM.sem b).2.map (ScM.scope 2 ns)) (ScM.runs (ScM.sem l).2 (ScM.limit ns a st)))) := by
 obtain ⟨A2, c2, rfl⟩ : ∃ A c, v2 = .slice A ns.length c := by obtain ⟨A, c, e, -⟩ := sn; exact ⟨A, c, e⟩
 obtain ⟨A3, c3, rfl⟩ : ∃ A c, v3 = .slice A l.len c := by obtain ⟨A, c, e, -⟩ := sl; exact ⟨A, c, e⟩
 obtain ⟨A4, c4, rfl⟩ : ∃ A c, v4 = .slice A b.len c := by obtain ⟨A, c, e, -⟩ := sb; exact ⟨A, c, e⟩
 have m1 : b.len * 1 ≤ b.len * (1 + ns.length) := Nat.mul_le_mul (Nat.le_refl _) (by omega)
 have bel := (Below.refl w.heap.size w).alloc (Nat.le_refl _) (SB 6 a (.slice A2 ns.length c2) (.slice A3 l.len c3) (.slice A4 b.len c4))
 have K0 := Lib.hid (Kp.of_below (b := true) bel hk.base)
 have X0 := Lib.hid (Blk.new w (SC5 6 a (.slice A2 ns.length c2) (.slice A3 l.len c3) (.slice A4 b.len c4)) 42)
 have W0 := Lib.hid (hk.keep bel)
 have HP := Lib.hid hP
 have SN := Lib.hid (fun (w1 : World) (kq : Kp B true w w1) => sn.kp kq hP)
 have SL := Lib.hid (fun (w1 : World) (kq : Kp B true w w1) => sl.kp kq hP)
 have SBB := Lib.hid (fun (w1 : World) (kq : Kp B true w w1) => sb.kp kq hP)
 have PP := Lib.hid p
 have HSZ := Lib.hid hsz
 have C1 := Lib.hid (limit_s W0.out 6 a ns ns.length A2 c2 (.slice A3 l.len c3) (.slice A4 b.len c4) rfl (by omega))
 have C2 := Lib.hid (fun (w1 : World) (kq : Kp B true w w1) (h : WK w1 B g S (ScM.limit ns a st)) => PP.out.ge w1 B g S _ P _ h (SL.out w1 kq) HP.out (by have := (ScM.limit_ext ns a st).ct; omega))
 have CS1 := Lib.hid (fun (w1 : World) (kq : Kp B true w w1) (h : WK w1 B g S (ScM.runs (ScM.sem l).2 (ScM.limit ns a st))) => PP.out.gb w1 B g S _ P _ 2 ns (.slice A2 ns.length c2) h (SBB.out w1 kq) HP.out (⟨P, SN.out w1 kq, HP.out⟩) HSZ.out (.inr (.inl rfl)) (by have := GE.calm p.wl p.rl (ScM.limit ns a st); have := (ScM.limit_ext ns a st).ct; show _ + (_ + b.len * (1 + ns.length)) ≤ _; omega))
 clear hk sn sl sb hP hns hsz hc m1 bel p
 obtain ⟨⟨b0, b1, b2, b3, b4⟩, -⟩ := X0.out.five
 go_enter Try.func53, Try.ntmps53
 go_wp2_with (first
  |(go_at_call 61; refine C1.out.mono ?_; rintro e w1 ⟨rfl, h, kp⟩; have W1 := Lib.hid h; have K1 := Lib.hid (K0.out.trans kp); have X1 := Lib.hid (kp.blk _ _ _ X0.out (by decide) (by decide) (fun _ => by decide)); clear h kp b0 b1 b2 b3 b4; obtain ⟨⟨b0, b1, b2, b3, b4⟩, -⟩ := X1.out.five; have D1 := Lib.hid (C2.out w1 K1.out W1.out))
  |(go_at_call 65; refine D1.out.mono ?_; rintro e w2 ⟨rfl, h, kp⟩; have W2 := Lib.hid h; have K2 := Lib.hid (K1.out.trans kp); have X2 := Lib.hid (kp.blk _ _ _ X1.out (by decide) (by decide) (fun _ => by decide)); clear h kp b0 b1 b2 b3 b4; obtain ⟨⟨b0, b1, b2, b3, b4⟩, -⟩ := X2.out.five; have D2 := Lib.hid (CS1.out w2 K2.out W2.out))
  |(go_at_call 66; refine D2.out.mono ?_; rintro e w3 ⟨rfl, h, kp⟩; have HZ := Lib.hid h; have KZ := Lib.hid (K2.out.trans kp); clear h kp))
 go_end0
 exact ⟨rfl, HZ.out, KZ.out⟩
set_option maxRecDepth 20000 in
set_option maxHeartbeats 4000000 in
theorem wst_each {l b : X} (p : Pt l b) {w : World} {B g : Nat} {S : List It} {st : ScM.Sc} {P : Nat → Prop} {a : Int} {ns : List ByteArray} {v2 v3 v4 : Value} (hk : WK w B g S st) (sn : Strs w P v2 ns) (sl : Sl l.len (Rd w P l).row 7 v3) (sb : Sl b.len (Rd w P b).row 1 v4) (hP : ∀ q, P q → q < B) (hns : ns.length ≤ 100000) (hsz : ∀ p ∈ ns, p.size ≤ maxLen) (hc : st.ct + (1 + ns.length + ScM.sz l + ScM.sz b + b.len * (1 + ns.length)) ≤ 1000000000000) :
  Calls Try.prog 53 #[.pointer (some ⟨g, 0, none⟩), .agg (SC5 7 a v2 v3 v4)] w (WP w B g S (ScM.runs ((ScM.sem b).2.map (ScM.scope 2 ns)) (ScM.runs (ScM.sem l).2 (ScM.limit ns a st)))) := by
 obtain ⟨A2, c2, rfl⟩ : ∃ A c, v2 = .slice A ns.length c := by obtain ⟨A, c, e, -⟩ := sn; exact ⟨A, c, e⟩
 obtain ⟨A3, c3, rfl⟩ : ∃ A c, v3 = .slice A l.len c := by obtain ⟨A, c, e, -⟩ := sl; exact ⟨A, c, e⟩
 obtain ⟨A4, c4, rfl⟩ : ∃ A c, v4 = .slice A b.len c := by obtain ⟨A, c, e, -⟩ := sb; exact ⟨A, c, e⟩
 have m1 : b.len * 1 ≤ b.len * (1 + ns.length) := Nat.mul_le_mul (Nat.le_refl _) (by omega)
 have bel := (Below.refl w.heap.size w).alloc (Nat.le_refl _) (SB 7 a (.slice A2 ns.length c2) (.slice A3 l.len c3) (.slice A4 b.len c4))
 have K0 := Lib.hid (Kp.of_below (b := true) bel hk.base)
 have X0 := Lib.hid (Blk.new w (SC5 7 a (.slice A2 ns.length c2) (.slice A3 l.len c3) (.slice A4 b.len c4)) 42)
 have W0 := Lib.hid (hk.keep bel)
 have HP := Lib.hid hP
 have SN := Lib.hid (fun (w1 : World) (kq : Kp B true w w1) => sn.kp kq hP)
 have SL := Lib.hid (fun (w1 : World) (kq : Kp B true w w1) => sl.kp kq hP)
 have SBB := Lib.hid (fun (w1 : World) (kq : Kp B true w w1) => sb.kp kq hP)
 have PP := Lib.hid p
 have HSZ := Lib.hid hsz
 have C1 := Lib.hid (limit_s W0.out 7 a ns ns.length A2 c2 (.slice A3 l.len c3) (.slice A4 b.len c4) rfl (by omega))
 have C2 := Lib.hid (fun (w1 : World) (kq : Kp B true w w1) (h : WK w1 B g S (ScM.limit ns a st)) => PP.out.ge w1 B g S _ P _ h (SL.out w1 kq) HP.out (by have := (ScM.limit_ext ns a st).ct; omega))
 have CS1 := Lib.hid (fun (w1 : World) (kq : Kp B true w w1) (h : WK w1 B g S (ScM.runs (ScM.sem l).2 (ScM.limit ns a st))) => PP.out.gb w1 B g S _ P _ 2 ns (.slice A2 ns.length c2) h (SBB.out w1 kq) HP.out (⟨P, SN.out w1 kq, HP.out⟩) HSZ.out (.inr (.inl rfl)) (by have := GE.calm p.wl p.rl (ScM.limit ns a st); have := (ScM.limit_ext ns a st).ct; show _ + (_ + b.len * (1 + ns.length)) ≤ _; omega))
 clear hk sn sl sb hP hns hsz hc m1 bel p
 obtain ⟨⟨b0, b1, b2, b3, b4⟩, -⟩ := X0.out.five
 go_enter Try.func53, Try.ntmps53
 go_wp2_with (first
  |(go_at_call 61; refine C1.out.mono ?_; rintro e w1 ⟨rfl, h, kp⟩; have W1 := Lib.hid h; have K1 := Lib.hid (K0.out.trans kp); have X1 := Lib.hid (kp.blk _ _ _ X0.out (by decide) (by decide) (fun _ => by decide)); clear h kp b0 b1 b2 b3 b4; obtain ⟨⟨b0, b1, b2, b3, b4⟩, -⟩ := X1.out.five; have D1 := Lib.hid (C2.out w1 K1.out W1.out))
  |(go_at_call 65; refine D1.out.mono ?_; rintro e w2 ⟨rfl, h, kp⟩; have W2 := Lib.hid h; have K2 := Lib.hid (K1.out.trans kp); have X2 := Lib.hid (kp.blk _ _ _ X1.out (by decide) (by decide) (fun _ => by decide)); clear h kp b0 b1 b2 b3 b4; obtain ⟨⟨b0, b1, b2, b3, b4⟩, -⟩ := X2.out.five; have D2 := Lib.hid (CS1.out w2 K2.out W2.out))
  |(go_at_call 66; refine D2.out.mono ?_; rintro e w3 ⟨rfl, h, kp⟩; have HZ := Lib.hid h; have KZ := Lib.hid (K2.out.trans kp); clear h kp))
 go_end0
 exact ⟨rfl, HZ.out, KZ.out⟩
set_option maxRecDepth 20000 in
set_option maxHeartbeats 4000000 in
theorem wst_repeat {l b : X} (p : Pt l b) {w : World} {B g : Nat} {S : List It} {st : ScM.Sc} {P : Nat → Prop} {a : Int} {ns : List ByteArray} {v2 v3 v4 : Value} (hk : WK w B g S st) (sn : Strs w P v2 ns) (sl : Sl l.len (Rd w P l).row 7 v3) (sb : Sl b.len (Rd w P b).row 1 v4) (hP : ∀ q, P q → q < B) (hns : ns.length ≤ 100000) (hsz : ∀ p ∈ ns, p.size ≤ maxLen) (hc : st.ct + (1 + ns.length + ScM.sz l + ScM.sz b + b.len * (1 + ns.length)) ≤ 1000000000000) :
  Calls Try.prog 53 #[.pointer (some ⟨g, 0, none⟩), .agg (SC5 8 a v2 v3 v4)] w (WP w B g S (ScM.scope 2 [] (fun s => ScM.runs (ScM.sem l).2 (ScM.runs (ScM.sem b).2 s)) st)) := by
 obtain ⟨A2, c2, rfl⟩ : ∃ A c, v2 = .slice A ns.length c := by obtain ⟨A, c, e, -⟩ := sn; exact ⟨A, c, e⟩
 obtain ⟨A3, c3, rfl⟩ : ∃ A c, v3 = .slice A l.len c := by obtain ⟨A, c, e, -⟩ := sl; exact ⟨A, c, e⟩
 obtain ⟨A4, c4, rfl⟩ : ∃ A c, v4 = .slice A b.len c := by obtain ⟨A, c, e, -⟩ := sb; exact ⟨A, c, e⟩
 have m1 : b.len * 1 ≤ b.len * (1 + ns.length) := Nat.mul_le_mul (Nat.le_refl _) (by omega)
 have bel := (Below.refl w.heap.size w).alloc (Nat.le_refl _) (SB 8 a (.slice A2 ns.length c2) (.slice A3 l.len c3) (.slice A4 b.len c4))
 have K0 := Lib.hid (Kp.of_below (b := true) bel hk.base)
 have X0 := Lib.hid (Blk.new w (SC5 8 a (.slice A2 ns.length c2) (.slice A3 l.len c3) (.slice A4 b.len c4)) 42)
 have W0 := Lib.hid (hk.keep bel)
 have HP := Lib.hid hP
 have SN := Lib.hid (fun (w1 : World) (kq : Kp B true w w1) => sn.kp kq hP)
 have SL := Lib.hid (fun (w1 : World) (kq : Kp B true w w1) => sl.kp kq hP)
 have SBB := Lib.hid (fun (w1 : World) (kq : Kp B true w w1) => sb.kp kq hP)
 have PP := Lib.hid p
 have HSZ := Lib.hid hsz
 have C1 := Lib.hid (repeat_s (k := 8) (a := a) p.wl p.wb p.rl p.rb p.ge p.fb p.hb W0.out (SL.out _ K0.out) (SBB.out _ K0.out) hP (by omega) ⟨A2, ns.length, c2, rfl⟩)
 clear hk sn sl sb hP hns hsz hc m1 bel p
 obtain ⟨⟨b0, b1, b2, b3, b4⟩, -⟩ := X0.out.five
 go_enter Try.func53, Try.ntmps53
 go_wp2_with (first
  |(go_at_call 67; refine C1.out.mono ?_; rintro e w1 ⟨rfl, h, kp⟩; have HZ := Lib.hid h; have KZ := Lib.hid (K0.out.trans kp); clear h kp))
 go_end0
 exact ⟨rfl, HZ.out, KZ.out⟩
set_option maxRecDepth 20000 in
set_option maxHeartbeats 4000000 in
theorem wst_break {l b : X} (p : Pt l b) {w : World} {B g : Nat} {S : List It} {st : ScM.Sc} {P : Nat → Prop} {a : Int} {ns : List ByteArray} {v2 v3 v4 : Value} (hk : WK w B g S st) (sn : Strs w P v2 ns) (sl : Sl l.len (Rd w P l).row 7 v3) (sb : Sl b.len (Rd w P b).row 1 v4) (hP : ∀ q, P q → q < B) (hns : ns.length ≤ 100000) (hsz : ∀ p ∈ ns, p.size ≤ maxLen) (hc : st.ct + (1 + ns.length + ScM.sz l + ScM.sz b + b.len * (1 + ns.length)) ≤ 1000000000000) :
  Calls Try.prog 53 #[.pointer (some ⟨g, 0, none⟩), .agg (SC5 9 a v2 v3 v4)] w (WP w B g S (ScM.parts (ScM.sem l).2 (ScM.sem b).2 (ScM.brk a st))) := by
 obtain ⟨A2, c2, rfl⟩ : ∃ A c, v2 = .slice A ns.length c := by obtain ⟨A, c, e, -⟩ := sn; exact ⟨A, c, e⟩
 obtain ⟨A3, c3, rfl⟩ : ∃ A c, v3 = .slice A l.len c := by obtain ⟨A, c, e, -⟩ := sl; exact ⟨A, c, e⟩
 obtain ⟨A4, c4, rfl⟩ : ∃ A c, v4 = .slice A b.len c := by obtain ⟨A, c, e, -⟩ := sb; exact ⟨A, c, e⟩
 have m1 : b.len * 1 ≤ b.len * (1 + ns.length) := Nat.mul_le_mul (Nat.le_refl _) (by omega)
 have bel := (Below.refl w.heap.size w).alloc (Nat.le_refl _) (SB 9 a (.slice A2 ns.length c2) (.slice A3 l.len c3) (.slice A4 b.len c4))
 have K0 := Lib.hid (Kp.of_below (b := true) bel hk.base)
 have X0 := Lib.hid (Blk.new w (SC5 9 a (.slice A2 ns.length c2) (.slice A3 l.len c3) (.slice A4 b.len c4)) 42)
 have W0 := Lib.hid (hk.keep bel)
 have HP := Lib.hid hP
 have SN := Lib.hid (fun (w1 : World) (kq : Kp B true w w1) => sn.kp kq hP)
 have SL := Lib.hid (fun (w1 : World) (kq : Kp B true w w1) => sl.kp kq hP)
 have SBB := Lib.hid (fun (w1 : World) (kq : Kp B true w w1) => sb.kp kq hP)
 have PP := Lib.hid p
 have HSZ := Lib.hid hsz
 have C1 := Lib.hid (end_s W0.out 9 a (.slice A2 ns.length c2) (.slice A3 l.len c3) (.slice A4 b.len c4))
 have CP := Lib.hid (fun (w1 : World) (kq : Kp B true w w1) (h : WK w1 B g S (ScM.brk a st)) => parts_s (k := 9) (a := a) (vn := .slice A2 ns.length c2) PP.out.ge PP.out.gb PP.out.wl PP.out.rl h (SL.out w1 kq) (SBB.out w1 kq) HP.out (by have := (ScM.brk_ext a st).ct; omega) ⟨_, _, _, rfl⟩)
 clear hk sn sl sb hP hns hsz hc m1 bel p
 obtain ⟨⟨b0, b1, b2, b3, b4⟩, -⟩ := X0.out.five
 go_enter Try.func53, Try.ntmps53
 go_wp2_with (first
  |(go_at_call 68; refine C1.out.mono ?_; rintro e w1 ⟨rfl, h, kp⟩; have W1 := Lib.hid h; have K1 := Lib.hid (K0.out.trans kp); have X1 := Lib.hid (kp.blk _ _ _ X0.out (by decide) (by decide) (fun _ => by decide)); clear h kp b0 b1 b2 b3 b4; obtain ⟨⟨b0, b1, b2, b3, b4⟩, -⟩ := X1.out.five; have D1 := Lib.hid (CP.out w1 K1.out W1.out))
  |(go_at_call 62; refine D1.out.mono ?_; rintro e w2 ⟨rfl, h, kp⟩; have HZ := Lib.hid h; have KZ := Lib.hid (K1.out.trans kp); clear h kp))
 go_end0
 exact ⟨rfl, HZ.out, KZ.out⟩
set_option maxRecDepth 20000 in
set_option maxHeartbeats 4000000 in
theorem wst_else (k : Int) (hne : ¬ k ∈ [1, 12, 2, 4, 5, 6, 7, 8, 9]) {l b : X} (p : Pt l b) {w : World} {B g : Nat} {S : List It} {st : ScM.Sc} {P : Nat → Prop} {a : Int} {ns : List ByteArray} {v2 v3 v4 : Value} (hk : WK w B g S st) (sn : Strs w P v2 ns) (sl : Sl l.len (Rd w P l).row 7 v3) (sb : Sl b.len (Rd w P b).row 1 v4) (hP : ∀ q, P q → q < B) (hns : ns.length ≤ 100000) (hsz : ∀ p ∈ ns, p.size ≤ maxLen) (hc : st.ct + (1 + ns.length + ScM.sz l + ScM.sz b + b.len * (1 + ns.length)) ≤ 1000000000000) :
  Calls Try.prog 53 #[.pointer (some ⟨g, 0, none⟩), .agg (SC5 k a v2 v3 v4)] w (WP w B g S (ScM.parts (ScM.sem l).2 (ScM.sem b).2 st)) := by
 obtain ⟨A2, c2, rfl⟩ : ∃ A c, v2 = .slice A ns.length c := by obtain ⟨A, c, e, -⟩ := sn; exact ⟨A, c, e⟩
 obtain ⟨A3, c3, rfl⟩ : ∃ A c, v3 = .slice A l.len c := by obtain ⟨A, c, e, -⟩ := sl; exact ⟨A, c, e⟩
 obtain ⟨A4, c4, rfl⟩ : ∃ A c, v4 = .slice A b.len c := by obtain ⟨A, c, e, -⟩ := sb; exact ⟨A, c, e⟩
 have m1 : b.len * 1 ≤ b.len * (1 + ns.length) := Nat.mul_le_mul (Nat.le_refl _) (by omega)
 have bel := (Below.refl w.heap.size w).alloc (Nat.le_refl _) (SB k a (.slice A2 ns.length c2) (.slice A3 l.len c3) (.slice A4 b.len c4))
 have K0 := Lib.hid (Kp.of_below (b := true) bel hk.base)
 have X0 := Lib.hid (Blk.new w (SC5 k a (.slice A2 ns.length c2) (.slice A3 l.len c3) (.slice A4 b.len c4)) 42)
 have W0 := Lib.hid (hk.keep bel)
 have HP := Lib.hid hP
 have SN := Lib.hid (fun (w1 : World) (kq : Kp B true w w1) => sn.kp kq hP)
 have SL := Lib.hid (fun (w1 : World) (kq : Kp B true w w1) => sl.kp kq hP)
 have SBB := Lib.hid (fun (w1 : World) (kq : Kp B true w w1) => sb.kp kq hP)
 have PP := Lib.hid p
 have HSZ := Lib.hid hsz
 have CP := Lib.hid (fun (w1 : World) (kq : Kp B true w w1) (h : WK w1 B g S (st)) => parts_s (k := k) (a := a) (vn := .slice A2 ns.length c2) PP.out.ge PP.out.gb PP.out.wl PP.out.rl h (SL.out w1 kq) (SBB.out w1 kq) HP.out (by omega) ⟨_, _, _, rfl⟩)
 have D0 := Lib.hid (CP.out _ K0.out W0.out)
 have q1 : (k == 1) = false := by simpa using fun e : k = 1 => hne (by simp [e])
 have q12 : (k == 12) = false := by simpa using fun e : k = 12 => hne (by simp [e])
 have q2 : (k == 2) = false := by simpa using fun e : k = 2 => hne (by simp [e])
 have q4 : (k == 4) = false := by simpa using fun e : k = 4 => hne (by simp [e])
 have q5 : (k == 5) = false := by simpa using fun e : k = 5 => hne (by simp [e])
 have q6 : (k == 6) = false := by simpa using fun e : k = 6 => hne (by simp [e])
 have q7 : (k == 7) = false := by simpa using fun e : k = 7 => hne (by simp [e])
 have q8 : (k == 8) = false := by simpa using fun e : k = 8 => hne (by simp [e])
 have q9 : (k == 9) = false := by simpa using fun e : k = 9 => hne (by simp [e])
 clear hne
 clear hk sn sl sb hP hns hsz hc m1 bel p
 obtain ⟨⟨b0, b1, b2, b3, b4⟩, -⟩ := X0.out.five
 go_enter Try.func53, Try.ntmps53
 go_wp2_with (first
  |(go_at_call 62; refine D0.out.mono ?_; rintro e w1 ⟨rfl, h, kp⟩; have HZ := Lib.hid h; have KZ := Lib.hid (K0.out.trans kp); clear h kp))
 go_end0
 exact ⟨rfl, HZ.out, KZ.out⟩
theorem stat_step (k a : Int) (ns : List ByteArray) (l b : X) (hl : ∀ y ∈ l.elems, ScQ y) (hb : ∀ y ∈ b.elems, ScQ y) : ScQ (.s k a ns l b) := by
 intro hw fit w B g S st P v2 v3 v4 hk sn sl sb hP hc
 have p : Pt l b := ⟨hw.2.2.1, hw.2.2.2, hw.1, hw.2.1, fit.1.2.1, fit.1.2.2, hl, hb⟩
 have hns := fit.1.1
 have hsz : ∀ q ∈ ns, q.size ≤ maxLen := fun q hq => Nat.le_trans (fit.2 q hq) (by decide)
 have hc : st.ct + (1 + ns.length + ScM.sz l + ScM.sz b + b.len * (1 + ns.length)) ≤ 1000000000000 := hc
 show Calls _ _ _ w (WP w B g (S ++ (if k = 1 ∨ k = 12 then ns else []).map nm) (ScM.act k a ns l (ScM.sem l).2 (ScM.sem b).2 st))
 unfold ScM.act
 by_cases h : k ∈ [1, 12, 2, 4, 5, 6, 7, 8, 9]
 ·simp only [List.mem_cons, List.not_mem_nil, or_false] at h
  have nn : S ++ (if False then ns else []).map nm = S := by simp
  rcases h with rfl | rfl | rfl | rfl | rfl | rfl | rfl | rfl | rfl
  ·exact wst_local p hk sn sl sb hP hns hsz hc
  ·exact wst_func p hk sn sl sb hP hns hsz hc
  ·have k := wst_set (a := a) p hk sn sl sb hP hns hsz hc
   simpa using k
  ·have k := wst_if (a := a) p hk sn sl sb hP hns hsz hc
   rw [← ScM.CS_end] at k
   simpa using k
  ·have k := wst_while (a := a) p hk sn sl sb hP hns hsz hc
   simpa using k
  ·have k := wst_for (a := a) p hk sn sl sb hP hns hsz hc
   simpa using k
  ·have k := wst_each (a := a) p hk sn sl sb hP hns hsz hc
   simpa using k
  ·have k := wst_repeat (a := a) p hk sn sl sb hP hns hsz hc
   simpa using k
  ·have k := wst_break (a := a) p hk sn sl sb hP hns hsz hc
   simpa using k
 ·have k := wst_else (a := a) k h p hk sn sl sb hP hns hsz hc
  simp only [List.mem_cons, List.not_mem_nil, or_false, not_or] at h
  obtain ⟨h1, h2, h3, h4, h5, h6, h7, h8, h9⟩ := h
  rw [if_neg (by omega), if_neg h1, if_neg h2, if_neg h3, if_neg h4, if_neg h5, if_neg (by omega), if_neg h8, if_neg h9, List.map_nil, List.append_nil]
  exact k
/-- The whole walk. -/
theorem sc_all (x : X) : ScQ x ∧ ∀ y ∈ x.elems, ScQ y :=
 X.all (S := ScQ) (fun k a n s op l f hl hf => exp_step k a n s op l f hl hf) (fun ps b hb hw fit => stats_row hw.2 fit.1.2 hb) (fun k a ns l b hl hb => stat_step k a ns l b hl hb)
  (fun l hl hw fit => stats_row hw.2 fit hl) (fun _ _ => trivial) (fun _ _ _ _ => trivial) x
theorem stats_all {x : X} (hw : ScM.wf x) (hf : x.fit 100000) : GS x := stats_row hw hf (sc_all x).2
end Go.Proofs.Yteakhlnnepjhpaa
