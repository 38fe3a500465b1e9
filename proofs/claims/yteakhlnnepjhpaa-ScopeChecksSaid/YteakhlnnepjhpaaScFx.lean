/- Package scope: the walker: limit, end, target. -/
import Derived.Test.YteakhlnnepjhpaaScEx
namespace Go.Proofs.Yteakhlnnepjhpaa
open Go.RowKit PrM
set_option linter.unusedVariables false
set_option linter.unusedSimpArgs false
abbrev SC5 (k a : Int) (vn vl vb : Value) : Array Value := #[.int .i64 k, .int .i64 a, vn, vl, vb]
abbrev SB (k a : Int) (vn vl vb : Value) : Obj := .cells (SC5 k a vn vl vb) 42
set_option maxRecDepth 20000 in
set_option maxHeartbeats 4000000 in
/-- limit. -/
theorem limit_s {w : World} {B g : Nat} {S : List It} {st : ScM.Sc} (hw : WK w B g S st) (k a : Int) (ns : List ByteArray) (n : Nat) (A : Option Addr) (c : Nat) (vl vb : Value) (hn : ns.length = n) (hnn : n ≤ 1000000000000) :
  Calls Try.prog 61 #[.pointer (some ⟨g, 0, none⟩), .agg (SC5 k a (.slice A n c) vl vb)] w fun e w' => e = .returned (.tuple #[]) ∧ WK w' B g S (ScM.limit ns a st) ∧ Kp B true w w' := by
 obtain ⟨vi, vo, mb, ob, h⟩ := hw
 have H := Lib.hid h
 have AL := Lib.hid ((Below.refl w.heap.size w).alloc (Nat.le_refl _) (SB k a (.slice A n c) vl vb))
 have H1 := Lib.hid (h.keep AL.out).drew
 have FLT := Lib.hid (fault_s H1.out 8 a)
 have BX := Lib.hid (Blk.new w (SC5 k a (.slice A n c) vl vb) 42)
 obtain ⟨⟨c0, c1, c2, c3, c4, c5, c6, c7⟩, -⟩ := (h.keep AL.out).blk.eight
 obtain ⟨⟨b0, b1, b2, b3, b4⟩, -⟩ := BX.out.five
 have o1 := Nat.le_trans h.own h.max
 obtain ⟨o, ho⟩ : ∃ o, st.own = o := ⟨_, rfl⟩
 rw [ho] at c2 o1
 have U := Lib.hid (show ScM.limit ns a st = if 150 < o + n then ScM.fault 8 a st else st by unfold ScM.limit; rw [hn, ho])
 have wo : wrap64 ((o : Int) + (n : Int)) = (o : Int) + (n : Int) := by unfold wrap64; omega
 by_cases q : 150 < o + n
 ·have q1 : decide ((150 : Int) < (o : Int) + (n : Int)) = true := decide_eq_true (by omega)
  have U2 := Lib.hid (show ScM.limit ns a st = ScM.fault 8 a st by rw [U.out, if_pos q])
  clear h hn hnn o1 ho q U
  go_enter Try.func61, Try.ntmps61
  go_wp2_with fail
  go_region
  go_wp2_with (go_at_call 70; refine FLT.out.mono ?_; rintro e w2 ⟨rfl, h2, kp2⟩; have H2 := Lib.hid h2; have KP2 := Lib.hid kp2; clear h2 kp2)
  go_end0
  rw [U2.out]
  exact ⟨rfl, ⟨_, _, _, _, H2.out⟩, ((Kp.of_below AL.out H.out.base).drew).trans KP2.out⟩
 ·have q1 : decide ((150 : Int) < (o : Int) + (n : Int)) = false := decide_eq_false (by omega)
  have U2 := Lib.hid (show ScM.limit ns a st = st by rw [U.out, if_neg q])
  clear h hn hnn o1 ho q U FLT
  go_enter Try.func61, Try.ntmps61
  go_wp2_with fail
  go_region
  go_wp2_with fail
  go_end0
  rw [U2.out]
  exact ⟨rfl, ⟨_, _, _, _, H1.out⟩, (Kp.of_below AL.out H.out.base).drew⟩
set_option maxRecDepth 20000 in
set_option maxHeartbeats 4000000 in
/-- end. -/
theorem end_s {w : World} {B g : Nat} {S : List It} {st : ScM.Sc} (hw : WK w B g S st) (k a : Int) (vn vl vb : Value) :
  Calls Try.prog 68 #[.pointer (some ⟨g, 0, none⟩), .agg (SC5 k a vn vl vb)] w fun e w' => e = .returned (.tuple #[]) ∧ WK w' B g S (ScM.brk a st) ∧ Kp B true w w' := by
 obtain ⟨vi, vo, mb, ob, h⟩ := hw
 have H := Lib.hid h
 have AL := Lib.hid ((Below.refl w.heap.size w).alloc (Nat.le_refl _) (SB k a vn vl vb))
 have H1 := Lib.hid (h.keep AL.out)
 have FLT := Lib.hid (fault_s H1.out 14 a)
 have BX := Lib.hid (Blk.new w (SC5 k a vn vl vb) 42)
 obtain ⟨⟨c0, c1, c2, c3, c4, c5, c6, c7⟩, -⟩ := (h.keep AL.out).blk.eight
 obtain ⟨⟨b0, b1, b2, b3, b4⟩, -⟩ := BX.out.five
 by_cases q : st.loops = 0
 ·have q1 : ((st.loops : Int) == 0) = true := by rw [q]; rfl
  have U2 := Lib.hid (show ScM.brk a st = ScM.fault 14 a st by unfold ScM.brk; rw [if_pos q])
  clear h q
  go_enter Try.func68, Try.ntmps68
  go_wp2_with (go_at_call 70; refine FLT.out.mono ?_; rintro e w2 ⟨rfl, h2, kp2⟩; have H2 := Lib.hid h2; have KP2 := Lib.hid kp2; clear h2 kp2)
  go_end0
  rw [U2.out]
  exact ⟨rfl, ⟨_, _, _, _, H2.out⟩, (Kp.of_below AL.out H.out.base).trans KP2.out⟩
 ·have q1 : ((st.loops : Int) == 0) = false := by simpa using q
  have U2 := Lib.hid (show ScM.brk a st = st by unfold ScM.brk; rw [if_neg q])
  clear h q FLT
  go_enter Try.func68, Try.ntmps68
  go_wp2_with fail
  go_end0
  rw [U2.out]
  exact ⟨rfl, ⟨_, _, _, _, H1.out⟩, Kp.of_below AL.out H.out.base⟩
/-- The first expression of a row. -/
theorem Sl.first {w : World} {P : Nat → Prop} {h t : X} {n c : Nat} {A : Option Addr} (hs : Sl (X.cons h t).len (Rd w P (.cons h t)).row 7 (.slice A n c)) : ∃ (p : Addr) (k a m : Int) (s : ByteArray) (op : Int) (l f : X) (A5 A6 : Option Addr) (n5 c5 n6 c6 : Nat), A = some p ∧ h = .e k a m s op l f ∧ (w.cell? p = some (.int .i64 k) ∧ w.cell? ⟨p.block, p.off + 1, none⟩ = some (.int .i64 a) ∧ w.cell? ⟨p.block, p.off + 2, none⟩ = some (.int .i64 m) ∧ w.cell? ⟨p.block, p.off + 3, none⟩ = some (.string s) ∧ w.cell? ⟨p.block, p.off + 4, none⟩ = some (.int .i64 op) ∧ w.cell? ⟨p.block, p.off + 5, none⟩ = some (.slice A5 n5 c5) ∧ w.cell? ⟨p.block, p.off + 6, none⟩ = some (.slice A6 n6 c6)) := by
 obtain ⟨p, y, v0, v1, v2, v3, v4, v5, v6, e, hy, hc, hd⟩ := Sl.at7 (i := 0) hs (Nat.succ_pos _)
 obtain rfl : h = y := Option.some.inj hy
 obtain ⟨k, a, m, s, op, l, f, u5, u6, rfl, he, ⟨A5, d5, r5, -⟩, ⟨A6, d6, r6, -⟩⟩ := Rd.is_e hd rfl
 subst r5 r6
 simp only [Array.mk.injEq, List.cons.injEq, and_true] at he
 obtain ⟨rfl, rfl, rfl, rfl, rfl, rfl, rfl⟩ := he
 have e0 : p.add (0 * 7) = p := by simp [Addr.add]
 rw [e0] at hc
 exact ⟨p, k, a, m, s, op, l, f, _, _, _, _, _, _, e, rfl, hc⟩
set_option maxRecDepth 20000 in
set_option maxHeartbeats 4000000 in
/-- target. -/
theorem target_s {w : World} {B g : Nat} {S : List It} {st : ScM.Sc} {P : Nat → Prop} (hw : WK w B g S st) (k a : Int) (l : X) (n : Nat) (A : Option Addr) (c : Nat) (vn vb : Value) (hs : Sl l.len (Rd w P l).row 7 (.slice A n c)) (hf : ∀ y ∈ l.elems, ∀ k a m s op q f, y = X.e k a m s op q f → s.size ≤ maxLen) :
  Calls Try.prog 63 #[.pointer (some ⟨g, 0, none⟩), .agg (SC5 k a vn (.slice A n c) vb)] w fun e w' => e = .returned (.tuple #[]) ∧ WK w' B g S (ScM.target l st) ∧ Kp B true w w' := by
 obtain ⟨vi, vo, mb, ob, h⟩ := hw
 have H := Lib.hid h
 have AL := Lib.hid ((Below.refl w.heap.size w).alloc (Nat.le_refl _) (SB k a vn (.slice A n c) vb))
 have H1 := Lib.hid (h.keep AL.out)
 have BX := Lib.hid (Blk.new w (SC5 k a vn (.slice A n c) vb) 42)
 obtain ⟨⟨b0, b1, b2, b3, b4⟩, -⟩ := BX.out.five
 have hn := (Sl.len hs).1
 have hc := (Sl.len hs).2.1
 have none_ : l.len = 0 → ScM.target l st = st → Calls Try.prog 63 #[.pointer (some ⟨g, 0, none⟩), .agg (SC5 k a vn (.slice A n c) vb)] w fun e w' => e = .returned (.tuple #[]) ∧ WK w' B g S (ScM.target l st) ∧ Kp B true w w' := fun e0 e1 => by
  have n0 : ((n : Int) == 0) = true := by rw [hn, e0]; rfl
  have E1 := Lib.hid e1
  clear h hs hf hn e0 e1 hc
  go_enter Try.func63, Try.ntmps63
  go_wp2_with fail
  rw [E1.out]
  exact ⟨rfl, _, results_none rfl _ _ _, rfl, ⟨_, _, _, _, H1.out⟩, Kp.of_below AL.out H.out.base⟩
 cases l with
 | nil => exact none_ rfl rfl
 | e => exact none_ rfl rfl
 | f => exact none_ rfl rfl
 | s => exact none_ rfl rfl
 | blk => exact none_ rfl rfl
 | cons hd tl =>
  clear none_
  obtain ⟨p, k1, a1, m1, s, op, l1, f1, A5, A6, n5, d5, n6, d6, rfl, rfl, p0, p1, p2, p3, p4, p5, p6⟩ := Sl.first (hs.imp (Rd.move (Moves.of_below AL.out (fun _ hk _ => hk)) _).2.1)
  have n0 : ((n : Int) == 0) = false := by
   have : n = tl.len + 1 := hn
   have e : (n : Int) ≠ 0 := by omega
   simpa using e
  have n1 : (0 : Int) < (n : Int) := by have : n = tl.len + 1 := hn; omega
  have n2 : (n : Int) ≤ (c : Int) := by omega
  have SZ := Lib.hid (hf _ (List.mem_cons_self ..) _ _ _ _ _ _ _ rfl)
  have E0 := Lib.hid (show ScM.target (.cons (.e k1 a1 m1 s op l1 f1) tl) st = if k1 = 6 ∧ (ScM.builtin s = true ∧ ScM.has st.names s = false) then ScM.fault 14 a1 st else st from rfl)
  clear hs hf hn h hc
  by_cases q6 : k1 = 6
  ·have q7 : (k1 != 6) = false := by rw [q6]; rfl
   have Q6 := Lib.hid q6
   clear q6
   have BL2 := Lib.hid (((Below.refl w.heap.size w).alloc (Nat.le_refl _) (SB k a vn (.slice (some p) n c) vb)).alloc (Nat.le_of_lt (al_lt w _)) (.cells #[.int .i64 k1, .int .i64 a1, .int .i64 m1, .string s, .int .i64 op, .slice A5 n5 d5, .slice A6 n6 d6] 39))
   have H2 := Lib.hid (H.out.keep BL2.out).drew
   have KX : Hid (Blk (((w.alloc (SB k a vn (.slice (some p) n c) vb)).alloc (.cells #[.int .i64 k1, .int .i64 a1, .int .i64 m1, .string s, .int .i64 op, .slice A5 n5 d5, .slice A6 n6 d6] 39)).drew) (w.heap.size + 1) #[.int .i64 k1, .int .i64 a1, .int .i64 m1, .string s, .int .i64 op, .slice A5 n5 d5, .slice A6 n6 d6] 39) := Lib.hid (by
    have k := Blk.new (w.alloc (SB k a vn (.slice (some p) n c) vb)) #[.int .i64 k1, .int .i64 a1, .int .i64 m1, .string s, .int .i64 op, .slice A5 n5 d5, .slice A6 n6 d6] 39
    rw [World.size_alloc] at k
    exact k)
   have KE := Lib.hid KX.out.seven.1.2.2.2.1
   have K1 := Lib.hid KX.out.seven.1.2.1
   have KB := Lib.hid (fun (W : World) (e : W.cell? ⟨w.heap.size + 1, 3, none⟩ = some (.string s)) => e)
   have BLT := Lib.hid (fun W => builtin_any s W)
   have HAS := Lib.hid (has_s H2.out s SZ.out)
   have FLT := Lib.hid (fault_s H2.out 14 a1)
   obtain ⟨bv, hbv⟩ : ∃ bv, ScM.builtin s = bv := ⟨_, rfl⟩
   obtain ⟨hv, hhv⟩ : ∃ hv, ScM.has st.names s = hv := ⟨_, rfl⟩
   rw [hbv] at BLT E0
   rw [hhv] at HAS E0
   clear hbv hhv
   go_enter Try.func63, Try.ntmps63
   go_wp2_with fail
   refine wp_region_held_drew (S := fun W => W.cell? ⟨w.heap.size + 1, 3, none⟩ = some (.string s)) (by kernel_rfl) KE.out (fun hH0 => ?_)
   refine tkB 0 hH0 ?_
   refine tkB 1 hH0 ?_
   refine wpAnyH_ready (rs := [2]) (by kernel_rfl) (by simp) ?_
   refine rdB (fun K hK => ?_) AllReadyH.nil
   rw [if_pos (by rfl)]
   go_wp2_with (go_at_call 9; refine (BLT.out _).mono ?_; rintro e w1 ⟨rfl, rfl⟩)
   refine hK.out _ _ KE.out (fun hH1 => ?_)
   clear hK K
   try simp only [Act.put, List.setIfInBounds_toArray, List.set_cons_zero, List.set_cons_succ]
   refine tkB 3 hH1 ?_
   cases bv with
   | false =>
    refine tkB 4 hH1 ?_
    refine tkB 5 hH1 ?_
    refine tkB 6 hH1 ?_
    refine tkB 7 hH1 ?_
    refine tkB 8 hH1 ?_
    refine wpAnyH_ready (rs := [9]) (by kernel_rfl) (by simp) ?_
    refine rdB (fun K hK => ?_) AllReadyH.nil
    rw [if_neg (by exact Bool.false_ne_true)]
    refine hK.out _ _ KE.out (fun hH2 => ?_)
    clear hK K
    try simp only [Act.put, List.setIfInBounds_toArray, List.set_cons_zero, List.set_cons_succ]
    refine tkB 10 hH2 ?_
    refine tkB 11 hH2 ?_
    refine wpAnyH_done (by kernel_rfl) ?_ _
    clear hH0 hH1 hH2
    go_wp2_with fail
    go_end0
    have e : ScM.target (.cons (.e k1 a1 m1 s op l1 f1) tl) st = st := by rw [E0.out, if_neg (fun x => by cases x.2.1)]
    rw [e]
    exact ⟨rfl, ⟨_, _, _, _, H2.out⟩, (Kp.of_below BL2.out H.out.base).drew⟩
   | true =>
    refine tkB 4 hH1 ?_
    refine tkB 5 hH1 ?_
    refine tkB 6 hH1 ?_
    refine tkB 7 hH1 ?_
    refine tkB 8 hH1 ?_
    refine wpAnyH_ready (rs := [9]) (by kernel_rfl) (by simp) ?_
    refine rdB (fun K hK => ?_) AllReadyH.nil
    rw [if_pos (by rfl)]
    go_wp2_with (go_at_call 71; refine HAS.out.mono ?_; rintro e w1 ⟨rfl, rfl⟩)
    refine hK.out _ _ KE.out (fun hH2 => ?_)
    clear hK K
    try simp only [Act.put, List.setIfInBounds_toArray, List.set_cons_zero, List.set_cons_succ]
    refine tkB 10 hH2 ?_
    refine tkB 11 hH2 ?_
    refine wpAnyH_done (by kernel_rfl) ?_ _
    clear hH0 hH1 hH2
    cases hv with
    | true =>
     go_wp2_with fail
     go_end0
     have e : ScM.target (.cons (.e k1 a1 m1 s op l1 f1) tl) st = st := by rw [E0.out, if_neg (fun x => by cases x.2.2)]
     rw [e]
     exact ⟨rfl, ⟨_, _, _, _, H2.out⟩, (Kp.of_below BL2.out H.out.base).drew⟩
    | false =>
     have k1x := K1.out
     go_wp2_with (go_at_call 70; refine FLT.out.mono ?_; rintro e w2 ⟨rfl, h2, kp2⟩; have H3 := Lib.hid h2; have KP2 := Lib.hid kp2; clear h2 kp2)
     go_end0
     have e : ScM.target (.cons (.e k1 a1 m1 s op l1 f1) tl) st = ScM.fault 14 a1 st := by rw [E0.out, if_pos (by simp [Q6.out])]
     rw [e]
     exact ⟨rfl, ⟨_, _, _, _, H3.out⟩, ((Kp.of_below BL2.out H.out.base).drew).trans KP2.out⟩
  ·have q7 : (k1 != 6) = true := by simpa using q6
   have E1 := Lib.hid (show ScM.target (.cons (.e k1 a1 m1 s op l1 f1) tl) st = st by rw [E0.out, if_neg (fun x => q6 x.1)])
   clear q6
   go_enter Try.func63, Try.ntmps63
   go_wp2_with fail
   rw [E1.out]
   exact ⟨rfl, _, results_none rfl _ _ _, rfl, ⟨_, _, _, _, H1.out⟩, Kp.of_below AL.out H.out.base⟩
end Go.Proofs.Yteakhlnnepjhpaa
