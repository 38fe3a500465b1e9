/- The document's own Check: any script; the law ScopeChecks walked. -/
import Derived.Test.YteakhlnnepjhpaaSeGx
import Derived.Test.YteakhlnnepjhpaaSdBx
import Derived.Test.YteakhlnnepjhpaaScVx
namespace Go.Proofs.Yteakhlnnepjhpaa
open Go.RowKit PrM
set_option linter.unusedVariables false
set_option linter.unusedSimpArgs false
def VQd (y : X) : Prop := ScM.wf y → y.fit 100000 → Shp y → match y with
 | .e _ _ _ _ _ l f => VPt l f
 | .f _ b => VB b
 | .s k a ns l b => VS (.s k a ns l b)
 | .blk m => VB m
 | _ => True
theorem vx_of {y : X} (h : VQd y) (hw : ScM.wf y) (hf : y.fit 100000) (hs : Shp y) : VX y := by
 cases y with
 | e => exact h hw hf hs
 | _ => trivial
theorem vs_of {y : X} (h : VQd y) (hw : ScM.wf y) (hf : y.fit 100000) (hs : Shp y) : VS y := by
 cases y with
 | s => exact h hw hf hs
 | _ => trivial
theorem shp_el : ∀ x : X, Shp x → ∀ y ∈ x.elems, Shp y
 | .cons h t, a, y, hy => by
  rcases List.mem_cons.1 hy with rfl | hy
  ·exact a.1
  ·exact shp_el t a.2 y hy
 | .nil, _, _, hy => nomatch hy
 | .e .., _, _, hy => nomatch hy
 | .f .., _, _, hy => nomatch hy
 | .s .., _, _, hy => nomatch hy
 | .blk _, _, _, hy => nomatch hy
theorem ve_nil : VE .nil := v_exps trivial trivial (fun _ h => nomatch h)
theorem ve_row {l : X} (hw : ScM.wf l) (hf : l.fit 100000) (hs : Shp l) (h : ∀ y ∈ l.elems, VQd y) : VE l := v_exps hw hf fun y hy => vx_of (h y hy) (ScM.wf_elems hw y hy) (fit_el l hf y hy) (shp_el l hs y hy)
theorem vb_row {b : X} (hw : ScM.wf b) (hr : ScM.row 5 b) (hf : b.fit 100000) (hs : Shp b) (h : ∀ y ∈ b.elems, VQd y) : VB b := v_block hw hr hf fun y hy => vs_of (h y hy) (ScM.wf_elems hw y hy) (fit_el b hf y hy) (shp_el b hs y hy)
theorem vq_all (x : X) : VQd x ∧ ∀ y ∈ x.elems, VQd y :=
 X.all (S := VQd)
  (fun k a n s op l f hl hf hw fit hs => v_parts (ve_row hw.2.2.1 fit.1.1 hs.2.1 hl) hw.2.2.1 hw.1 hw.2.2.2 fit.1.2 ve_nil fun y hy ps b e => by subst e; exact hf _ hy (ScM.wf_elems hw.2.2.2 _ hy) (fit_el f fit.1.2 _ hy) (shp_el f hs.2.2 _ hy))
  (fun ps b hb hw fit hs => vb_row hw.2 hw.1 fit.1.2 hs hb)
  (fun k a ns l b hl hb hw fit hs => v_stat (ve_row hw.2.2.1 fit.1.2.1 hs.2.1 hl)
   (fun y hy => ve_row (l := X.one y) ⟨ScM.wf_elems hw.2.2.1 y hy, trivial⟩ ⟨fit_el l fit.1.2.1 y hy, trivial, (by decide)⟩ ⟨shp_el l hs.2.1 y hy, trivial⟩ (fun z hz => by obtain rfl := List.mem_singleton.1 hz; exact hl z hy))
   (fun y r e => by
    subst e
    exact ⟨vx_of (hl y (List.mem_cons_self ..)) hw.2.2.1.1 fit.1.2.1.1 hs.2.1.1, ve_row hw.2.2.1.2 fit.1.2.1.2.1 hs.2.1.2 (fun z hz => hl z (List.mem_cons_of_mem _ hz))⟩)
   (fun y hy m e => by subst e; exact hb _ hy (ScM.wf_elems hw.2.2.2 _ hy) (fit_el b fit.1.2.2 _ hy) (shp_el b hs.2.2 _ hy))
   hw.2.2.1 hw.1 hw.2.2.2 hw.2.1 fit.1.2.1 fit.1.2.2 fit.1.1 hs.1 hs.2.1 ve_nil)
  (fun l hl hw fit hs => vb_row hw.2 hw.1 fit hs hl) (fun _ _ _ => trivial) (fun _ _ _ _ _ => trivial) x
theorem vb_all {x : X} (hw : ScM.wf x) (hr : ScM.row 5 x) (hf : x.fit 100000) (hs : Shp x) : VB x := vb_row hw hr hf hs (vq_all x).2
/-- The state that Check begins with. -/
def stK : ScM.Sc := ScM.declare [ScM.keysB, ScM.argvB] (ScM.enter 3 ScM.st0)
abbrev I1 (n : Int) : Obj := .cells #[.int .i64 n] 3
theorem own_new {w : World} {B : Nat} {ty : TypeId} {z n : Nat} (cs : List Value) (hB : B ≤ w.heap.size) (hz : cs.length = n * z) (hn : n ≤ maxLen) : (w.alloc (.cells cs.toArray ty)).ownsRow B ty z (.slice (some ⟨w.heap.size, 0, none⟩) n n) n cs :=
 ⟨hz, .inr ⟨w.heap.size, n, cs.toArray, rfl, hB, Blk.new w _ _, Nat.le_refl _, hn, by simp [hz], by rw [List.take_of_length_le (by simp [hz])]⟩⟩
theorem vk_new (w : World) : VQ ((((w.alloc KAO).alloc (I1 2)).alloc (I1 0)).alloc (.cells #[.slice (some ⟨w.heap.size, 0, none⟩) 2 2, .slice (some ⟨w.heap.size + 1, 0, none⟩) 1 1, .slice (some ⟨w.heap.size + 1 + 1, 0, none⟩) 1 1, .int .i64 0, .int .i64 0] 66)) w.heap.size (w.heap.size + 1 + 1 + 1) [] [] 0 stK := by
 have s1 := World.size_alloc w KAO
 have s2 := World.size_alloc (w.alloc KAO) (I1 2)
 have s3 := World.size_alloc ((w.alloc KAO).alloc (I1 2)) (I1 0)
 have k1 := own_new (w := w) (B := w.heap.size) (ty := 9) (z := 1) (n := 2) [.string ScM.keysB, .string ScM.argvB] (Nat.le_refl _) rfl (by decide)
 have k2 := own_new (w := w.alloc KAO) (B := w.heap.size) (ty := 3) (z := 1) (n := 1) [.int .i64 2] (by omega) rfl (by decide)
 have k3 := own_new (w := (w.alloc KAO).alloc (I1 2)) (B := w.heap.size) (ty := 3) (z := 1) (n := 1) [.int .i64 0] (by omega) rfl (by decide)
 rw [s1] at k2
 rw [s2, s1] at k3
 have bl := Blk.new (((w.alloc KAO).alloc (I1 2)).alloc (I1 0)) #[.slice (some ⟨w.heap.size, 0, none⟩) 2 2, .slice (some ⟨w.heap.size + 1, 0, none⟩) 1 1, .slice (some ⟨w.heap.size + 1 + 1, 0, none⟩) 1 1, .int .i64 0, .int .i64 0] 66
 rw [s3, s2, s1] at bl
 have keep : ∀ {W : World} {ty : TypeId} {v : Value} {n : Nat} {ys : List Value} (o : Obj), W.ownsRow w.heap.size ty 1 v n ys → (W.alloc o).ownsRow w.heap.size ty 1 v n ys := fun {W ty v n ys} o h =>
  own_same h fun q e => ((Below.refl W.heap.size W).alloc (Nat.le_refl _) o).block q (own_lt h q e).2
 refine ⟨_, _, _, bl, keep _ (keep _ (keep _ k1)), keep _ (keep _ k2), keep _ k3, fun q e x => ?_, by omega, by decide, by decide, by decide, by decide, by decide, by decide, by decide⟩
 have e1 : w.heap.size + 1 = q := Option.some.inj e
 have e2 : w.heap.size + 1 + 1 = q := Option.some.inj x
 omega
set_option maxRecDepth 20000 in
set_option maxHeartbeats 4000000 in
/-- Check. -/
theorem rcheck_any {w : World} {P : Nat → Prop} {x : X} {v : Value} (h0 : Sl x.len (Rd w P x).row 5 v) (hf : x.fit 100000) (hs : Shp x) (hc : ScM.sz x ≤ 900000000000) :
  Calls Try.prog 8 #[v] w fun e w' => e = .returned (.tuple #[.int .i64 (ScM.chk x).err, .int .i64 (ScM.chk x).at_]) ∧ Below w.heap.size w w' := by
 have h := h0.lo
 have hw := h.wf (.inr (.inr (.inl rfl)))
 obtain ⟨A, c, rfl⟩ := slice_of h
 have B1 := (((Below.refl w.heap.size w).alloc (Nat.le_refl _) KAO).alloc (by rw [World.size_alloc]; omega) (I1 2)).alloc (by rw [World.size_alloc, World.size_alloc]; omega) (I1 0)
 have B2 := B1.alloc (by have := B1.size; exact this) (.cells #[.slice (some ⟨w.heap.size, 0, none⟩) 2 2, .slice (some ⟨w.heap.size + 1, 0, none⟩) 1 1, .slice (some ⟨w.heap.size + 1 + 1, 0, none⟩) 1 1, .int .i64 0, .int .i64 0] 66)
 have C1 := Lib.hid (vb_all hw.2 hw.1 hf hs .nil _ _ _ [] [] 0 stK (fun k => k < w.heap.size) (fun k => k < w.heap.size) _ (.slice none 0 0) (.slice none 0 0) [] rfl ve_nil trivial trivial (vk_new w) (h.bel B2) (fun q hq => hq) (strs_nil _ _) (fun q hq => hq) (sl_nil _ _ 7) (show 3 + (0 + ScM.sz x + 0) ≤ 1000000000000 by omega))
 have BB := Lib.hid B2
 have E1 := Lib.hid (show (blkR [] .nil x stK).err = (ScM.chk x).err by show (ScM.runs (ScM.sem x).2 (ScM.declare [] stK)).err = _; rw [declare_none]; rfl)
 have E2 := Lib.hid (show (blkR [] .nil x stK).at_ = (ScM.chk x).at_ by show (ScM.runs (ScM.sem x).2 (ScM.declare [] stK)).at_ = _; rw [declare_none]; rfl)
 clear h h0 hw hf hs hc B1 B2
 go_enter Try.func8, Try.ntmps8
 go_wp2_with (go_at_call 20; refine C1.out.mono ?_; rintro e w3 ⟨rfl, ⟨vn, vw, vl, h3⟩, k3⟩; have H3 := Lib.hid h3; have B3 := Lib.hid (BB.out.trans k3.bel); obtain ⟨⟨c0, c1, c2, c3, c4⟩, -⟩ := h3.blk.five; rw [E1.out] at c3; rw [E2.out] at c4; clear h3 k3)
 go_region
 go_wp2_with fail
 go_ret2
 exact ⟨rfl, B3.out.drew⟩
/-- What a script's tree is, where it is one. -/
structure Tree (x : X) : Prop where
 fit : x.fit 100000
 shp : Shp x
 sz : ScM.sz x ≤ 900000000000
theorem script_two (s : ByteArray) (hs : s.size ≤ 1500) :
  (∃ c a : Int, c ≠ 0 ∧ ∀ W : World, Calls Try.prog 6 #[.string s] W fun e W' => e = .returned (.tuple #[.slice none 0 0, .int .i64 c, .int .i64 a]) ∧ Below W.heap.size W W') ∨
  (∃ x : X, Tree x ∧ ∀ W : World, Calls Try.prog 6 #[.string s] W fun e W' => (∃ A c, e = .returned (.tuple #[.slice A x.len c, .int .i64 0, .int .i64 0]) ∧ Sl x.len (Rd W' (fun k => k < W'.heap.size) x).row 5 (.slice A x.len c)) ∧ Below W.heap.size W W') := by
 have hsa := fun W => script_any W s (by omega)
 cases hF : LxM.lex s.data.toList with
 | bad q =>
  rw [hF] at hsa
  exact .inl ⟨14, (q : Int), by decide, fun W => (hsa W).mono fun e W' h => h⟩
 | ok T =>
  rw [hF] at hsa
  have hc := lex_count hF
  have zs : s.data.toList.length = s.size := by simp
  by_cases h0 : (script T).2.code = 0
  ·refine .inr ⟨(script T).1, ⟨script_fits hF (by omega), script_shp T, ?_⟩, fun W => (hsa W).mono ?_⟩
   ·have k := script_sz (w := T.length + 10) (Nat.le_refl _) h0
    have k2 : (T.length + 10) * T.length ≤ 1511 * 1501 := Nat.mul_le_mul (by omega) (by omega)
    omega
   ·rintro e W' ⟨hm, b⟩
    obtain ⟨v, rfl, sl⟩ := hm.1 h0
    have sl2 := Sl.lo sl
    obtain ⟨A, c, rfl⟩ : ∃ A c, v = .slice A (script T).1.len c := by obtain ⟨A, c, e, -⟩ := sl; exact ⟨A, c, e⟩
    exact ⟨⟨A, c, rfl, sl2⟩, b⟩
  ·exact .inl ⟨(script T).2.code, (script T).2.at_, h0, fun W => (hsa W).mono fun e W' h => ⟨h.1.2 h0, h.2⟩⟩
set_option maxRecDepth 20000 in
set_option maxHeartbeats 4000000 in
theorem checks_walk (w : World) (s nm : ByteArray) : Calls Try.prog 3 #[.string s, .string nm] w fun e w' => e = .returned (.bool true) ∧ Below w.heap.size w w' := by
 have TO := Lib.hid (fun W => told_s W)
 by_cases hs : s.size ≤ 1500
 ·have q1 : ¬ (1500 : Int) < (s.size : Int) := by omega
  by_cases hn : nm.size ≤ 100
  ·have q2 : ¬ (100 : Int) < (nm.size : Int) := by omega
   rcases script_two s hs with ⟨c, a, h0, hS⟩ | ⟨x, tr, hS⟩
   ·have SC := Lib.hid hS
    have q3 : (c != 0) = true := by simpa using h0
    clear hS h0 hs hn
    go_enter Try.func3, Try.ntmps3
    go_wp2_with (first
     |(go_at_call 6; (with_reducible refine (SC.out _).mono ?_); rintro e w1 ⟨rfl, b1⟩; have Y1 := Lib.hid b1; clear b1)
     |(go_at_call 5; refine (TO.out _).mono ?_; rintro e w3 ⟨rfl, b3⟩; have Y3 := Lib.hid (Y1.out.trans (b3.mono Y1.out.size)); clear b3))
    go_ret
    exact ⟨rfl, Y3.out⟩
   ·have SC := Lib.hid hS
    have CA := Lib.hid (fun (W : World) (P : Nat → Prop) (v : Value) (h : Sl x.len (Rd W P x).row 5 v) => check_any h tr.fit tr.sz)
    have CB := Lib.hid (fun (W : World) (P : Nat → Prop) (v : Value) (h : Sl x.len (Rd W P x).row 5 v) => rcheck_any h tr.fit tr.shp tr.sz)
    have N1 := Lib.hid (fun W => builtin_any nm W)
    have N2 := Lib.hid (fun W => rbuiltin_any nm W)
    obtain ⟨bn, hbn⟩ : ∃ b, ScM.builtin nm = b := ⟨_, rfl⟩
    obtain ⟨er, her⟩ : ∃ e, (ScM.chk x).err = e := ⟨_, rfl⟩
    obtain ⟨pl, hpl⟩ : ∃ e, (ScM.chk x).at_ = e := ⟨_, rfl⟩
    rw [hbn] at N1 N2
    rw [her, hpl] at CA CB
    clear hS hs hn tr hbn her hpl
    go_enter Try.func3, Try.ntmps3
    go_wp2_with (first
     |(go_at_call 6; (with_reducible refine (SC.out _).mono ?_); rintro e w1 ⟨⟨A1, c1, rfl, s1⟩, b1⟩; have S1 := Lib.hid s1; have Y1 := Lib.hid b1; clear s1 b1)
     |(go_at_call 7; refine (CA.out _ _ _ S1.out).mono ?_; rintro e w2 ⟨rfl, b2⟩; have S2 := Lib.hid (S1.out.bel b2); have Y2 := Lib.hid (Y1.out.trans (b2.mono Y1.out.size)); clear b2)
     |(go_at_call 8; refine (CB.out _ _ _ S2.out).mono ?_; rintro e w3 ⟨rfl, b3⟩; have Y3 := Lib.hid (Y2.out.trans (b3.mono Y2.out.size)); clear b3)
     |(go_at_call 5; refine (TO.out _).mono ?_; rintro e w4 ⟨rfl, b4⟩; have Y4 := Lib.hid (Y3.out.trans (b4.mono Y3.out.size)); clear b4)
     |(go_at_call 9; refine (N1.out _).mono ?_; rintro e w5 ⟨rfl, rfl⟩)
     |(go_at_call 10; refine (N2.out _).mono ?_; rintro e w6 ⟨rfl, b6⟩; have Y6 := Lib.hid (Y4.out.trans (b6.mono Y4.out.size)); clear b6))
    go_ret
    exact ⟨by simp, Y6.out⟩
  ·have q2 : (100 : Int) < (nm.size : Int) := by omega
   clear hs hn
   go_enter Try.func3, Try.ntmps3
   go_wp2_with (go_at_call 5; refine (TO.out _).mono ?_; rintro e w3 ⟨rfl, b3⟩; have Y3 := Lib.hid b3; clear b3)
   go_ret
   exact ⟨rfl, Y3.out⟩
 ·have q1 : (1500 : Int) < (s.size : Int) := by omega
  clear hs
  go_enter Try.func3, Try.ntmps3
  go_wp2_with (go_at_call 5; refine (TO.out _).mono ?_; rintro e w3 ⟨rfl, b3⟩; have Y3 := Lib.hid b3; clear b3)
  go_ret
  exact ⟨rfl, Y3.out⟩
end Go.Proofs.Yteakhlnnepjhpaa
