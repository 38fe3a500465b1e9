/- The document's own Outer: any function. -/
import Derived.Test.YteakhlnnepjhpaaSdFx
import Derived.Test.YteakhlnnepjhpaaSdHx
namespace Go.Proofs.Yteakhlnnepjhpaa
open Go.RowKit PrM
set_option linter.unusedVariables false
set_option linter.unusedSimpArgs false
theorem oq_all (x : X) : OQ x ∧ ∀ y ∈ x.elems, OQ y :=
 X.all (S := OQ) (fun k a n s op l f hl hf hw fit hs => ⟨oexps_row (.inr oe_nil) hw.2.2.1 fit.1.1 hs.2.1 hl, fun y hy ps b e => by subst e; exact hf _ hy (ScM.wf_elems hw.2.2.2 _ hy) (fit_el f fit.1.2 _ hy) (shp_elems f hs.2.2 _ hy)⟩)
  (fun ps b hb hw fit hs => oblock_row hw.2 hw.1 fit.1.2 hs hb)
  (fun k a ns l b hl hb hw fit hs => ⟨oexps_row (.inr oe_nil) hw.2.2.1 fit.1.2.1 hs.2.1 hl, fun y hy => oexps_row (x := X.one y) (.inr oe_nil) ⟨ScM.wf_elems hw.2.2.1 y hy, trivial⟩ ⟨fit_el l fit.1.2.1 y hy, trivial, (by decide)⟩ ⟨shp_elems l hs.2.1 y hy, trivial⟩ (fun z hz => by obtain rfl := List.mem_singleton.1 hz; exact hl z hy), fun y hy m e => by subst e; exact hb _ hy (ScM.wf_elems hw.2.2.2 _ hy) (fit_el b fit.1.2.2 _ hy) (shp_elems b hs.2.2 _ hy)⟩)
  (fun l hl hw fit hs => oblock_row hw.2 hw.1 fit hs hl) (fun _ _ _ => trivial) (fun _ _ _ _ _ => trivial) x
theorem oblock_all {x : X} (hw : ScM.wf x) (hr : ScM.row 5 x) (hf : x.fit 100000) (hs : PrM.Shp x) : OB x := oblock_row hw hr hf hs (oq_all x).2
theorem wq_new (w : World) : WQ (w.alloc (.cells #[.slice none 0 0, .slice none 0 0] 72)) w.heap.size w.heap.size ScM.st0 :=
 ⟨_, _, Blk.new w _ _, World.ownsRow_nil _ _ _ _, World.ownsRow_nil _ _ _ _, (fun q e => nomatch e), Nat.le_refl _, Nat.le_refl _, Nat.le_refl _, Nat.zero_le _⟩
set_option maxRecDepth 20000 in
set_option maxHeartbeats 4000000 in
/-- Outer. -/
theorem router_any {w : World} {P : Nat → Prop} {ps : List ByteArray} {b : X} {v0 v1 : Value} (sn0 : Strs w P v0 ps) (sb0 : Sl b.len (Rd w P b).row 5 v1) (fi : PrM.Fine 900000000000 (ps, b)) :
  Calls Try.prog 14 #[.agg #[v0, v1]] w fun e w' => (∃ u, e = .returned u ∧ Strs w' (fun k => w.heap.size ≤ k) u (ScM.outr ps b)) ∧ (ScM.outr ps b).length ≤ 1000000000000 ∧ Below w.heap.size w w' := by
 have sn := sn0.lo
 have sb := sb0.lo
 obtain ⟨A, c, rfl⟩ : ∃ A c, v0 = .slice A ps.length c := by obtain ⟨A, c, e, -⟩ := sn; exact ⟨A, c, e⟩
 obtain ⟨A2, c2, rfl⟩ : ∃ A c, v1 = .slice A b.len c := by obtain ⟨A, c, e, -⟩ := sb; exact ⟨A, c, e⟩
 have bel := (Below.refl w.heap.size w).alloc (Nat.le_refl _) (.cells #[.slice A ps.length c, .slice A2 b.len c2] 36)
 have BX := Blk.new w #[.slice A ps.length c, .slice A2 b.len c2] 36
 obtain ⟨w1, hw1⟩ : ∃ w1, w.alloc (.cells #[.slice A ps.length c, .slice A2 b.len c2] 36) = w1 := ⟨_, rfl⟩
 rw [hw1] at bel BX
 have B1 := Lib.hid bel
 have b2 := (Below.refl w1.heap.size w1).alloc (Nat.le_refl _) (.cells #[.slice none 0 0, .slice none 0 0] 72)
 have B2 := Lib.hid (bel.trans (b2.mono bel.size))
 have HW1 := Lib.hid hw1
 have SZ := fi.sz
 have C1 := Lib.hid (oblock_all fi.wf fi.row fi.fit fi.shp .nil _ _ _ ScM.st0 (fun k => k < w.heap.size) (fun k => k < w.heap.size) _ _ (.slice none 0 0) 3 ps oe_nil trivial trivial (wq_new w1) (sb.bel B2.out) (fun q h => Nat.lt_of_lt_of_le h bel.size) (sn.bel B2.out) (fun q h => Nat.lt_of_lt_of_le h bel.size) (sl_nil _ _ 7) (show 0 + (1 + ps.length + ScM.sz b + 0) ≤ 1000000000000 by simp only at SZ; omega))
 have KX := BX.keep b2
 obtain ⟨⟨x0, x1⟩, -⟩ := BX.two
 obtain ⟨⟨y0, y1⟩, -⟩ := KX.two
 clear sn0 sb0 sn sb bel fi SZ b2 BX KX
 go_enter Try.func14, Try.ntmps14
 go_wp2_with (go_at_call 23; refine C1.out.mono ?_; rintro e w5 ⟨rfl, ⟨vn, vo, h5⟩, kp⟩; have H5 := Lib.hid h5; have K5 := Lib.hid kp; obtain ⟨⟨z0, z1⟩, -⟩ := h5.blk.two; clear h5 kp)
 go_ret
 refine ⟨⟨_, rfl, ?_⟩, Nat.le_trans H5.out.olen H5.out.max, B2.out.trans (K5.out.bel.mono B1.out.size)⟩
 exact (strs_ownN H5.out.outer).move ⟨Nat.le_refl _, fun _ _ _ => rfl, fun k hk _ => Nat.le_trans B1.out.size hk⟩
end Go.Proofs.Yteakhlnnepjhpaa
