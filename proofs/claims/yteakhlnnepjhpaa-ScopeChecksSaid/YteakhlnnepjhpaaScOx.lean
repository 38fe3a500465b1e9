/- Package scope: newWalker, Check, Outer. -/
import Derived.Test.YteakhlnnepjhpaaScLx
import Derived.WideMake
namespace Go.Proofs.Yteakhlnnepjhpaa
open Go.RowKit PrM Go.Maps
set_option linter.unusedVariables false
set_option linter.unusedSimpArgs false
namespace ScM
def st0 : Sc := ⟨[], 0, 0, 0, 0, [], 0⟩
def keysB : ByteArray := ⟨#[75, 69, 89, 83]⟩
def argvB : ByteArray := ⟨#[65, 82, 71, 86]⟩
/-- 17.2: Check of a script. -/
def chk (x : X) : Sc := scope 3 [keysB, argvB] (runs (sem x).2) st0
/-- 17.3: Outer of a function. -/
def outr (ps : List ByteArray) (b : X) : List ByteArray := (scope 3 ps (runs (sem b).2) st0).outer
end ScM
/-- What stands in memory has rows of one kind each. -/
theorem rd_wf {w : World} {P : Nat → Prop} (x : X) : (∀ cs, (Rd w P x).cells cs → ScM.wf x) ∧ (∀ z A off, z = 7 ∨ z = 2 ∨ z = 5 ∨ z = 1 → (Rd w P x).row z A off → ScM.row z x ∧ ScM.wf x) := by
 induction x with
 | nil => exact ⟨fun _ _ => trivial, fun _ _ _ _ _ => ⟨trivial, trivial⟩⟩
 | cons h t ih1 ih2 =>
  refine ⟨fun _ k => k.elim, fun z A off hz k => ?_⟩
  obtain ⟨⟨p, cs, -, -, -, hs, -, hd⟩, hr⟩ := k
  have r := ih2.2 z A _ hz hr
  have kzz : ScM.kz h = z := by
   cases h with
   | nil => exact hd.elim
   | cons => exact hd.elim
   | e => obtain ⟨vl, vf, rfl, -⟩ := hd; exact hs
   | f => obtain ⟨vl, vf, rfl, -⟩ := hd; exact hs
   | s => obtain ⟨vn, vl, vf, rfl, -⟩ := hd; exact hs
   | blk => obtain ⟨v, rfl, -⟩ := hd; exact hs
  exact ⟨⟨kzz, r.1⟩, ih1.1 cs hd, r.2⟩
 | e k a n s op l f ih1 ih2 =>
  refine ⟨fun cs h => ?_, fun _ _ _ _ h => h.elim⟩
  obtain ⟨vl, vf, -, ⟨A, c, -, -, -, h1⟩, ⟨A2, c2, -, -, -, h2⟩⟩ := h
  have r1 := ih1.2 7 _ _ (.inl rfl) h1
  have r2 := ih2.2 2 _ _ (.inr (.inl rfl)) h2
  exact ⟨r1.1, r2.1, r1.2, r2.2⟩
 | f ps b ih =>
  refine ⟨fun cs h => ?_, fun _ _ _ _ h => h.elim⟩
  obtain ⟨vl, vf, -, -, ⟨A, c, -, -, -, h1⟩⟩ := h
  exact ih.2 5 _ _ (.inr (.inr (.inl rfl))) h1
 | s k a ns l b ih1 ih2 =>
  refine ⟨fun cs h => ?_, fun _ _ _ _ h => h.elim⟩
  obtain ⟨vn, vl, vf, -, -, ⟨A, c, -, -, -, h1⟩, ⟨A2, c2, -, -, -, h2⟩⟩ := h
  have r1 := ih1.2 7 _ _ (.inl rfl) h1
  have r2 := ih2.2 1 _ _ (.inr (.inr (.inr rfl))) h2
  exact ⟨r1.1, r2.1, r1.2, r2.2⟩
 | blk l ih =>
  refine ⟨fun cs h => ?_, fun _ _ _ _ h => h.elim⟩
  obtain ⟨v, -, ⟨A, c, -, -, -, h1⟩⟩ := h
  exact ih.2 5 _ _ (.inr (.inr (.inl rfl))) h1
section
variable {w : World} {P : Nat → Prop} {x : X} {z : Nat} {v : Value} {l : List ByteArray}
theorem Sl.wf (h : Sl x.len (Rd w P x).row z v) (hz : z = 7 ∨ z = 2 ∨ z = 5 ∨ z = 1) : ScM.row z x ∧ ScM.wf x := by
 obtain ⟨A, c, -, -, -, h⟩ := h
 exact (rd_wf x).2 z _ _ hz h
theorem Sl.lo (h : Sl x.len (Rd w P x).row z v) : Sl x.len (Rd w (fun k => k < w.heap.size) x).row z v :=
 h.imp (Rd.move ⟨Nat.le_refl _, fun _ _ _ => rfl, fun _ _ hl => hl⟩ x).2.1
theorem Strs.lo (h : Strs w P v l) : Strs w (fun k => k < w.heap.size) v l := h.move ⟨Nat.le_refl _, fun _ _ _ => rfl, fun _ _ hl => hl⟩
theorem strs_ownN {B : Nat} (h : w.ownsRow B 9 1 v l.length (l.map .string)) : Strs w (fun k => B ≤ k) v l := by
 have h' := h
 rcases h.2 with ⟨rfl, h0⟩ | ⟨p, cap, cur, rfl, hp, hb, hc, -⟩
 ·obtain rfl : l = [] := List.eq_nil_of_length_eq_zero h0
  exact ⟨none, 0, rfl, fun _ => rfl, Nat.le_refl _, fun i hi => absurd hi (Nat.not_lt_zero _)⟩
 ·refine ⟨_, cap, rfl, (fun e => nomatch e), hc, fun i hi => ⟨_, rfl, hp, (Array.getElem?_eq_some_iff.1 hb).1, ?_⟩⟩
  exact h'.cells (g := p) rfl i _ (by rw [List.getElem?_map, List.getElem?_eq_getElem hi]; rfl)
end
theorem new_wk (w : World) : WK (((w.alloc (.map #[] 0)).alloc (.map #[] 0)).alloc (.cells #[.slice none 0 0, .map (some w.heap.size), .int .i64 0, .int .i64 0, .int .i64 0, .int .i64 0, .slice none 0 0, .map (some (w.heap.size + 1))] 62)) w.heap.size (w.heap.size + 1 + 1) [] ScM.st0 := by
 have b1 := (Below.refl _ (w.alloc (.map #[] 0))).alloc (Nat.le_refl _) (.map #[] 0)
 have b2 := (Below.refl _ ((w.alloc (.map #[] 0)).alloc (.map #[] 0))).alloc (Nat.le_refl _) (.cells #[.slice none 0 0, .map (some w.heap.size), .int .i64 0, .int .i64 0, .int .i64 0, .int .i64 0, .slice none 0 0, .map (some (w.heap.size + 1))] 62)
 have c1 := cnt_new w
 have o1 := out_new (w.alloc (.map #[] 0))
 have bl := Blk.new ((w.alloc (.map #[] 0)).alloc (.map #[] 0)) #[.slice none 0 0, .map (some w.heap.size), .int .i64 0, .int .i64 0, .int .i64 0, .int .i64 0, .slice none 0 0, .map (some (w.heap.size + 1))] 62
 rw [World.size_alloc] at o1
 rw [World.size_alloc, World.size_alloc] at bl
 have nl : ∀ (w : World) (B z : Nat) (ty : TypeId), w.ownsRow B ty z (.slice none 0 0) 0 [] := fun w B z ty => ⟨by simp, .inl ⟨rfl, rfl⟩⟩
 refine ⟨.slice none 0 0, .slice none 0 0, w.heap.size, w.heap.size + 1, ⟨bl, nl _ _ _ _, c1.same ?_, nl _ _ _ _, o1.same ?_, by omega, Nat.le_refl _, by omega, by omega, rfl, Nat.le_refl _, Nat.le_refl _, Nat.le_refl _, Nat.le_refl _, (fun _ h => nomatch h), Nat.zero_le _⟩⟩
 ·exact (b2.block _ (by rw [World.size_alloc, World.size_alloc]; omega)).trans (b1.block _ (by rw [World.size_alloc]; omega))
 ·exact b2.block _ (by rw [World.size_alloc, World.size_alloc]; omega)
set_option maxRecDepth 20000 in
set_option maxHeartbeats 4000000 in
/-- newWalker. -/
theorem new_any (w : World) : Calls Try.prog 18 #[] w fun e w' => (∃ g, e = .returned (.pointer (some ⟨g, 0, none⟩)) ∧ WK w' w.heap.size g [] ScM.st0) ∧ Below w.heap.size w w' := by
 have mk := fun W => run_makeMap_plain (P := Try.prog) (w := W) 57
 have mk2 := fun W => run_makeMap_plain (P := Try.prog) (w := W) 60
 go_enter Try.func18, Try.ntmps18
 go_wp2_with fail
 go_ret
 exact ⟨⟨_, rfl, new_wk w⟩, (((Below.refl w.heap.size w).alloc (Nat.le_refl _) _).alloc (by rw [World.size_alloc]; omega) _).alloc (by rw [World.size_alloc, World.size_alloc]; omega) _⟩
/-- KEYS and ARGV in memory. -/
abbrev KAO : Obj := .cells #[.string ScM.keysB, .string ScM.argvB] 9
theorem Blk.two {W : World} {b : Nat} {v0 v1 : Value} {t : TypeId} (h : Blk W b #[v0, v1] t) : (W.cell? ⟨b, 0, none⟩ = some v0 ∧ W.cell? ⟨b, 1, none⟩ = some v1) ∧ W.frozen? ⟨b, 0, none⟩ = false := by
 have h : W.heap[b]? = _ := h
 simp [World.cell?, World.frozen?, h]
theorem nms_ka (w : World) (B : Nat) : Nms (w.alloc KAO) B (.slice (some ⟨w.heap.size, 0, none⟩) 2 2) [ScM.keysB, ScM.argvB] := by
 have bl := Blk.new w #[.string ScM.keysB, .string ScM.argvB] 9
 have h : (w.alloc KAO).heap[w.heap.size]? = some (.cells #[.string ScM.keysB, .string ScM.argvB] 9 (0, 0)) := bl
 refine ⟨fun k => k = w.heap.size, ⟨_, 2, rfl, (fun e => nomatch e), Nat.le_refl _, fun i hi => ⟨_, rfl, rfl, bl.lt, ?_⟩⟩, fun k hk _ => .inr ⟨_, by subst hk; exact bl⟩⟩
 have e : (⟨w.heap.size, 0, none⟩ : Addr).add i = ⟨w.heap.size, i, none⟩ := by unfold Addr.add; split <;> simp_all
 rw [e]
 unfold World.cell?
 rw [h]
 match i, hi with
 | 0, _ => rfl
 | 1, _ => rfl
set_option maxRecDepth 20000 in
set_option maxHeartbeats 4000000 in
/-- Check. -/
theorem check_any {w : World} {P : Nat → Prop} {x : X} {v : Value} (h0 : Sl x.len (Rd w P x).row 5 v) (hf : x.fit 100000) (hc : ScM.sz x ≤ 900000000000) :
  Calls Try.prog 7 #[v] w fun e w' => e = .returned (.tuple #[.int .i64 (ScM.chk x).err, .int .i64 (ScM.chk x).at_]) ∧ Below w.heap.size w w' := by
 have h := h0.lo
 have hw := (h.wf (.inr (.inr (.inl rfl)))).2
 obtain ⟨A, c, rfl⟩ : ∃ A c, v = .slice A x.len c := by obtain ⟨A, c, e, -⟩ := h; exact ⟨A, c, e⟩
 have NW := Lib.hid (new_any w)
 have HX := Lib.hid h
 have SC := Lib.hid (fun (w1 : World) (g : Nat) (k : WK w1 w.heap.size g [] ScM.st0) (s : Sl x.len (Rd w1 (fun k => k < w.heap.size) x).row 5 (.slice A x.len c)) (n : Nms w1 w.heap.size (.slice (some ⟨w1.heap.size - 1, 0, none⟩) 2 2) [ScM.keysB, ScM.argvB]) => scope_s (k := 3) (stats_all hw hf) hw k s (fun q hq => hq) n (fun p hp => by simp at hp; rcases hp with rfl | rfl <;> decide) (.inr (.inr rfl)) (show 0 + (1 + 2 + ScM.sz x) ≤ 1000000000000 by omega))
 clear h h0 hw hf hc
 go_enter Try.func7, Try.ntmps7
 go_wp2_with (first
  |(go_at_call 18
    refine NW.out.mono ?_
    rintro e w1 ⟨⟨g, rfl, k1⟩, b1⟩
    have B1 := Lib.hid b1
    have k2 := k1.keep ((Below.refl _ w1).alloc (Nat.le_refl _) KAO)
    have n2 := nms_ka w1 w.heap.size
    rw [show w1.heap.size = (w1.alloc KAO).heap.size - 1 by rw [World.size_alloc]; rfl] at n2
    have C2 := Lib.hid (SC.out (w1.alloc KAO) g k2 ((HX.out.kp (Kp.of_below (b := true) b1 (Nat.le_refl _)) (fun q hq => hq)).kp (Kp.of_below (b := true) ((Below.refl _ w1).alloc (Nat.le_refl _) KAO) b1.size) (fun q hq => hq)) n2)
    rw [show (w1.alloc KAO).heap.size - 1 = w1.heap.size by rw [World.size_alloc]; rfl] at C2
    have B2 := Lib.hid (b1.alloc b1.size KAO)
    clear b1 k1 k2 n2)
  |(go_at_call 19
    refine C2.out.mono ?_
    rintro e w3 ⟨rfl, ⟨vi, vo, mb, ob, k3⟩, kp3⟩
    have B3 := Lib.hid (B2.out.trans kp3.bel)
    obtain ⟨⟨c0, c1, c2, c3, c4, c5, c6, c7⟩, -⟩ := k3.blk.eight
    clear k3 kp3))
 go_region
 go_wp2_with fail
 go_ret2
 exact ⟨rfl, B3.out.drew⟩
set_option maxRecDepth 20000 in
set_option maxHeartbeats 4000000 in
/-- Outer. -/
theorem outer_any {w : World} {P : Nat → Prop} {ps : List ByteArray} {b : X} {v0 v1 : Value} (sn0 : Strs w P v0 ps) (sb0 : Sl b.len (Rd w P b).row 5 v1) (hf : b.fit 100000) (hps : ∀ p ∈ ps, p.size ≤ 100000) (hc : ps.length + ScM.sz b ≤ 900000000000) :
  Calls Try.prog 13 #[.agg #[v0, v1]] w fun e w' => (∃ u, e = .returned u ∧ Strs w' (fun k => w.heap.size ≤ k) u (ScM.outr ps b)) ∧ Below w.heap.size w w' := by
 have sn := sn0.lo
 have sb := sb0.lo
 have hw := (sb.wf (.inr (.inr (.inl rfl)))).2
 obtain ⟨A, c, rfl⟩ : ∃ A c, v0 = .slice A ps.length c := by obtain ⟨A, c, e, -⟩ := sn; exact ⟨A, c, e⟩
 obtain ⟨A2, c2, rfl⟩ : ∃ A c, v1 = .slice A b.len c := by obtain ⟨A, c, e, -⟩ := sb; exact ⟨A, c, e⟩
 have bel := (Below.refl w.heap.size w).alloc (Nat.le_refl _) (.cells #[.slice A ps.length c, .slice A2 b.len c2] 36)
 have B0 := Lib.hid bel
 have NW := Lib.hid (new_any (w.alloc (.cells #[.slice A ps.length c, .slice A2 b.len c2] 36)))
 have BX := Lib.hid (Blk.new w #[.slice A ps.length c, .slice A2 b.len c2] 36)
 have SN := Lib.hid sn
 have SBB := Lib.hid sb
 have SC := Lib.hid (fun (w1 : World) (B g : Nat) (hB : w.heap.size ≤ B) (k : WK w1 B g [] ScM.st0) (s : Sl b.len (Rd w1 (fun k => k < w.heap.size) b).row 5 (.slice A2 b.len c2)) (n : Strs w1 (fun k => k < w.heap.size) (.slice A ps.length c) ps) => scope_s (k := 3) (stats_all hw hf) hw k s (fun q hq => Nat.lt_of_lt_of_le hq hB) (n.nms (fun q hq => Nat.lt_of_lt_of_le hq hB)) (fun p hp => Nat.le_trans (hps p hp) (by decide)) (.inr (.inr rfl)) (show 0 + (1 + ps.length + ScM.sz b) ≤ 1000000000000 by omega))
 clear sn0 sb0 sn sb hw hf hps hc bel
 obtain ⟨⟨b0, b1⟩, -⟩ := BX.out.two
 go_enter Try.func13, Try.ntmps13
 go_wp2_with (first
  |(go_at_call 18
    refine NW.out.mono ?_
    rintro e w1 ⟨⟨g, rfl, k1⟩, bb1⟩
    have bw := B0.out.trans (bb1.mono B0.out.size)
    have B1 := Lib.hid bw
    have C2 := Lib.hid (SC.out w1 _ g (by rw [World.size_alloc]; omega) k1 (SBB.out.kp (Kp.of_below (b := true) bw (Nat.le_refl _)) (fun q hq => hq)) (SN.out.kp (Kp.of_below (b := true) bw (Nat.le_refl _)) (fun q hq => hq)))
    have BX1 := Lib.hid (BX.out.below bb1 BX.out.lt)
    clear bb1 k1 bw b0 b1
    obtain ⟨⟨b0, b1⟩, -⟩ := BX1.out.two)
  |(go_at_call 19
    refine C2.out.mono ?_
    rintro e w3 ⟨rfl, ⟨vi, vo, mb, ob, k3⟩, kp3⟩
    have B3 := Lib.hid (B1.out.trans (kp3.bel.mono (by rw [World.size_alloc]; omega)))
    have OU := Lib.hid (strs_ownN k3.outer)
    obtain ⟨⟨c0, c1, c2, c3, c4, c5, c6, c7⟩, -⟩ := k3.blk.eight
    clear k3 kp3))
 go_ret
 exact ⟨⟨_, rfl, OU.out.move ⟨Nat.le_refl _, fun _ _ _ => rfl, fun k hk _ => Nat.le_trans (by rw [World.size_alloc]; omega) hk⟩⟩, B3.out⟩
end Go.Proofs.Yteakhlnnepjhpaa
