/- Package scope: the walker: cases, repeat. -/
import Derived.Test.YteakhlnnepjhpaaScIx
namespace Go.Proofs.Yteakhlnnepjhpaa
open Go.RowKit PrM
set_option linter.unusedVariables false
set_option linter.unusedSimpArgs false
namespace ScM
def CA (l b : X) (i : Nat) (st : Sc) : Sc := (sem l).2.getD i id (CS l b i st)
theorem CA_some {l b y : X} {i : Nat} (h : l.elems[i]? = some y) (st : Sc) : CA l b i st = (sem y).1 (CS l b i st) := by
 unfold CA
 rw [List.getD_eq_getElem?_getD, sem_row, List.getElem?_map, h]
 rfl
theorem CA_none {l b : X} {i : Nat} (h : l.len ≤ i) (st : Sc) : CA l b i st = CS l b i st := by
 unfold CA
 rw [List.getD_eq_getElem?_getD, sem_row, List.getElem?_map, List.getElem?_eq_none (by rw [elems_len]; exact h)]
 rfl
theorem CS_some {l b bd : X} {i : Nat} (h : b.elems[i]? = some (.blk bd)) (st : Sc) : CS l b (i + 1) st = scope 1 [] (runs (sem bd).2) (CA l b i st) := by
 show ((sem b).2.map (scope 1 [])).getD i id (CA l b i st) = _
 rw [List.getD_eq_getElem?_getD, sem_row, List.map_map, List.getElem?_map, h]
 rfl
theorem CS_none {l b : X} {i : Nat} (h : b.len ≤ i) (st : Sc) : CS l b (i + 1) st = CA l b i st := by
 show ((sem b).2.map (scope 1 [])).getD i id (CA l b i st) = _
 rw [List.getD_eq_getElem?_getD, sem_row, List.map_map, List.getElem?_map, List.getElem?_eq_none (by rw [elems_len]; exact h)]
 rfl
theorem CS_end (l b : X) (st : Sc) : cs (sem l).2 ((sem b).2.map (scope 1 [])) (max (sem l).2.length (sem b).2.length) st = CS l b (max l.len b.len) st := by
 unfold CS
 rw [sem_row, sem_row, List.length_map, List.length_map, elems_len, elems_len]
theorem CA_fit {l b y : X} {i : Nat} {st : Sc} {N : Nat} (wl : wf l) (wb : wf b) (rl : row 7 l) (rb : row 1 b) (h : l.elems[i]? = some y) (hc : st.ct + (sz l + (sz b + b.len * 1)) ≤ N) : (CS l b i st).ct + sz y ≤ N := by
 have e := CS_ext (fun y hy => sem_ext y (wf_elems wl y hy)) (fun y hy => sem_ext y (wf_elems wb y hy)) rl rb st i
 have := e.ct
 have t := tot_succ (f := sz) h
 have := tot_le sz l.elems (i + 1)
 have := sum_sz l
 have := tot_le (fun y => 1 + 0 + sz y) b.elems i
 have := sum_blk 0 b
 simp only [Nat.add_zero] at *
 omega
theorem CS_fit {l b bd : X} {i : Nat} {st : Sc} {N : Nat} (wl : wf l) (wb : wf b) (rl : row 7 l) (rb : row 1 b) (h : b.elems[i]? = some (.blk bd)) (hc : st.ct + (sz l + (sz b + b.len * 1)) ≤ N) : (CA l b i st).ct + (1 + sz bd) ≤ N := by
 have e := CS_ext (fun y hy => sem_ext y (wf_elems wl y hy)) (fun y hy => sem_ext y (wf_elems wb y hy)) rl rb st i
 have := e.ct
 have t := tot_succ (f := fun y => 1 + 0 + sz y) h
 have := tot_le (fun y => 1 + 0 + sz y) b.elems (i + 1)
 have := sum_blk 0 b
 simp only [sz, Nat.add_zero] at *
 have q : (CA l b i st).ct ≤ st.ct + (sz l + tot (fun y => 1 + sz y) b.elems i) := by
  cases k : l.elems[i]? with
  | some y =>
   rw [CA_some k]
   have := (sem_ext y (wf_elems wl y (List.mem_of_getElem? k)) (CS l b i st)).ct
   have := tot_succ (f := sz) k
   have := tot_le sz l.elems (i + 1)
   have := sum_sz l
   omega
  | none =>
   rw [CA_none (by have := List.getElem?_eq_none_iff.1 k; rwa [elems_len] at this)]
   have := tot_le sz l.elems i
   have := sum_sz l
   omega
 omega
end ScM
theorem run_mx2 (f b : Int) : ∀ (W : World) (ts : Array TypeId) (t : TypeId), (Builtin.max_ ts t #[.int .i64 f, .int .i64 b]).run Try.prog W = .ok (.int .i64 (max f b)) W := fun W ts t => by
 rw [run_max_int2]
 have e : (if b > f then b else f) = max f b := by split <;> omega
 rw [e]
set_option maxRecDepth 20000 in
set_option maxHeartbeats 4000000 in
/-- cases. -/
theorem cases_s {l b : X} (wl : ScM.wf l) (wb : ScM.wf b) (rl : ScM.row 7 l) (rb : ScM.row 1 b) (fl : l.fit 100000) (fb : b.fit 100000) (hl : ∀ y ∈ l.elems, ScQ y) (hb : ∀ y ∈ b.elems, ScQ y) {w : World} {B g : Nat} {S : List It} {st : ScM.Sc} {P : Nat → Prop} {k a : Int} {vn vl vb : Value} (hk : WK w B g S st) (sl : Sl l.len (Rd w P l).row 7 vl) (sb : Sl b.len (Rd w P b).row 1 vb) (hP : ∀ q, P q → q < B) (hc : st.ct + (ScM.sz l + (ScM.sz b + b.len * 1)) ≤ 1000000000000) (shn : ∃ A n c, vn = .slice A n c) :
  Calls Try.prog 64 #[.pointer (some ⟨g, 0, none⟩), .agg (SC5 k a vn vl vb)] w (WP w B g S (ScM.CS l b (max l.len b.len) st)) := by
 obtain ⟨An, nn, cn, rfl⟩ := shn
 obtain ⟨Al, cl, rfl⟩ : ∃ A c, vl = .slice A l.len c := by obtain ⟨A, c, e, -⟩ := sl; exact ⟨A, c, e⟩
 obtain ⟨Ab, cb, rfl⟩ : ∃ A c, vb = .slice A b.len c := by obtain ⟨A, c, e, -⟩ := sb; exact ⟨A, c, e⟩
 obtain ⟨n, hn⟩ : ∃ n, l.len = n := ⟨_, rfl⟩
 obtain ⟨m, hm⟩ : ∃ m, b.len = m := ⟨_, rfl⟩
 have HN := Lib.hid hn
 have HM := Lib.hid hm
 have bel := (Below.refl w.heap.size w).alloc (Nat.le_refl _) (SB k a (.slice An nn cn) (.slice Al l.len cl) (.slice Ab b.len cb))
 have AL := Lib.hid (Kp.of_below (b := true) bel hk.base)
 have BX := Lib.hid (Blk.new w (SC5 k a (.slice An nn cn) (.slice Al l.len cl) (.slice Ab b.len cb)) 42)
 have WK0 := Lib.hid (hk.keep bel)
 have QL := Lib.hid (fun y hy => hl y hy (ScM.wf_elems wl y hy) (fit_el l fl y hy))
 have QB := Lib.hid (fun y hy => hb y hy (ScM.wf_elems wb y hy) (fit_el b fb y hy))
 have WL := Lib.hid wl
 have WB := Lib.hid wb
 have RL := Lib.hid rl
 have RB := Lib.hid rb
 have WBE := Lib.hid (fun y hy => ScM.wf_elems wb y hy)
 have SL := Lib.hid sl
 have SBB := Lib.hid sb
 have HP := Lib.hid hP
 have HC := Lib.hid hc
 have f1 := X.fit_len l fl
 have f2 := X.fit_len b fb
 rw [hn] at f1
 rw [hm] at f2
 obtain ⟨⟨b0, b1, b2, b3, b4⟩, -⟩ := BX.out.five
 rw [hn] at b3
 rw [hm] at b4
 obtain ⟨M, hM⟩ : ∃ M, max n m = M := ⟨_, rfl⟩
 have HMM := Lib.hid hM
 have mx := run_mx2 (n : Int) (m : Int)
 rw [show max (n : Int) (m : Int) = (M : Int) by rw [← hM]; omega] at mx
 have n0 : (0 : Int) ≤ (n : Int) := by omega
 have m0 : (0 : Int) ≤ (m : Int) := by omega
 have M0 : (0 : Int) ≤ (M : Int) := by omega
 have M1 : (M : Int) ≤ 100000 := by omega
 rw [hn, hm, hM]
 clear wl wb rl rb fl fb hl hb hk sl sb hP hc bel f1 f2 hn hm hM
 go_enter Try.func64, Try.ntmps64
 go_wp2_with fail
 go_loopw [4, 12] (fun u4 u12 wr => ∃ (i : Nat) (v : Value), u4 = v ∧ u12 = .int .i64 (i : Int) ∧ i ≤ M ∧ WK wr B g S (ScM.CS l b i st) ∧ Kp B true w wr ∧ Blk wr w.heap.size (SC5 k a (.slice An nn cn) (.slice Al n cl) (.slice Ab m cb)) 42) (fun _ u12 _ => (M : Int).toNat - (intOf u12).toNat)
 case atStart =>
  have k1 := WK0.out
  have k2 := AL.out
  have k3 := BX.out
  rw [HN.out, HM.out] at k1 k2 k3
  exact ⟨0, undef, rfl, rfl, Nat.zero_le _, k1, k2, k3⟩
 case round =>
  obtain ⟨i, v, rfl, rfl, hi, hwk, hkp, hbx⟩ := hrel
  have WK1 := Lib.hid hwk
  have KP := Lib.hid hkp
  have BX1 := Lib.hid hbx
  have i0 : (0 : Int) ≤ (i : Int) := by omega
  have wri : wrap64 ((i : Int) + 1) = (i : Int) + 1 := by unfold wrap64; omega
  clear b0 b1 b2 b3 b4 mx
  obtain ⟨⟨b0, b1, b2, b3, b4⟩, -⟩ := BX1.out.five
  clear hwk hkp hbx
  by_cases hlt : i < M
  ·have LT := Lib.hid hlt
   have hl1 : (i : Int) < (M : Int) := by omega
   have CE : ∃ st2, ScM.CA l b i st = st2 := ⟨_, rfl⟩
   obtain ⟨st2, hst2⟩ := CE
   have E2 := Lib.hid hst2
   by_cases q1 : i < n
   ·have q1i : (i : Int) < (n : Int) := by omega
    obtain ⟨p, y, v0, v1, v2, v3, v4, v5, v6, hAl, hy, ⟨c0, c1, c2, c3, c4, c5, c6⟩, rd⟩ := Sl.at7 (SL.out.kp KP.out HP.out) (by rw [HN.out]; exact q1)
    obtain ⟨k1, a1, m1, sv, op, l1, f1, w5, w6, rfl, he, sl, sf⟩ := Rd.is_e rd rfl
    simp only [Array.mk.injEq, List.cons.injEq, and_true] at he
    obtain ⟨rfl, rfl, rfl, rfl, rfl, rfl, rfl⟩ := he
    subst hAl
    obtain ⟨A5, d5, rfl⟩ : ∃ A c, v5 = .slice A l1.len c := by obtain ⟨A, c, e, -⟩ := sl; exact ⟨A, c, e⟩
    obtain ⟨A6, d6, rfl⟩ : ∃ A c, v6 = .slice A f1.len c := by obtain ⟨A, c, e, -⟩ := sf; exact ⟨A, c, e⟩
    have C1 := Lib.hid (QL.out _ (List.mem_of_getElem? hy) _ B g S _ P _ _ WK1.out sl sf HP.out (ScM.CA_fit WL.out WB.out RL.out RB.out hy HC.out))
    rw [← ScM.CA_some hy, E2.out] at C1
    clear rd sl sf hy hst2
    by_cases q2 : i < m
    ·have q2i : (i : Int) < (m : Int) := by omega
     have Q2 := Lib.hid q2
     clear q1 q2 hlt hi
     go_wp2_with (first
      |(go_at_call 72
        refine C1.out.mono ?_
        rintro e w1 ⟨rfl, h1, kp1⟩
        have W1 := Lib.hid h1
        have KK := Lib.hid (KP.out.trans kp1)
        have BX2 := Lib.hid (kp1.blk _ _ _ BX1.out (by decide) (by decide) (fun _ => by decide))
        clear h1 kp1 b0 b1 b2 b3 b4
        obtain ⟨p2, y2, u0, hAb, hy2, d0, rd2⟩ := Sl.at1 (SBB.out.kp KK.out HP.out) (by rw [HM.out]; exact Q2.out)
        rw [Nat.mul_one] at d0
        obtain ⟨bd, z0, rfl, he2, sl2⟩ := Rd.is_b rd2 rfl
        simp only [Array.mk.injEq, List.cons.injEq, and_true] at he2
        subst he2
        subst hAb
        obtain ⟨A8, d8, rfl⟩ : ∃ A c, u0 = .slice A bd.len c := by obtain ⟨A, c, e, -⟩ := sl2; exact ⟨A, c, e⟩
        have D1 := Lib.hid (scope_s (QB.out _ (List.mem_of_getElem? hy2)) (WBE.out _ (List.mem_of_getElem? hy2)).2 (k := 1) (ps := []) W1.out sl2 HP.out (nmt_nil _ B).nms (fun p hp => nomatch hp) (.inl rfl) (by have := ScM.CS_fit WL.out WB.out RL.out RB.out hy2 HC.out; rw [E2.out] at this; exact this))
        have E3 := Lib.hid (show ScM.scope 1 [] (ScM.runs (ScM.sem bd).2) st2 = ScM.CS l b (i + 1) st by rw [← E2.out, ← ScM.CS_some hy2])
        rw [E3.out] at D1
        clear rd2 sl2 hy2
        obtain ⟨⟨b0, b1, b2, b3, b4⟩, -⟩ := BX2.out.five)
      |(go_at_call 19
        refine D1.out.mono ?_
        rintro e w2 ⟨rfl, h2, kp2⟩
        have H2 := Lib.hid h2
        have K2 := Lib.hid (KK.out.trans kp2)
        have BX3 := Lib.hid (kp2.blk _ _ _ BX2.out (by decide) (by decide) (fun _ => by decide))
        clear h2 kp2))
     refine ⟨⟨i + 1, _, rfl, ?_, LT.out, H2.out, K2.out, BX3.out⟩, ?_⟩
     ·first | rfl | exact congrArg (Value.int .i64) (wri.trans (by omega))
     ·have := LT.out; simp only [intOf]; omega
    ·have q2i : ¬ (i : Int) < (m : Int) := by omega
     have E3 := Lib.hid (show ScM.CS l b (i + 1) st = st2 by rw [← E2.out, ScM.CS_none (by rw [HM.out]; omega)])
     clear q1 q2 hlt hi
     go_wp2_with (first
      |(go_at_call 72
        refine C1.out.mono ?_
        rintro e w1 ⟨rfl, h1, kp1⟩
        have H2 := Lib.hid h1
        have K2 := Lib.hid (KP.out.trans kp1)
        have BX3 := Lib.hid (kp1.blk _ _ _ BX1.out (by decide) (by decide) (fun _ => by decide))
        rw [← E3.out] at H2
        clear h1 kp1 b0 b1 b2 b3 b4
        obtain ⟨⟨b0, b1, b2, b3, b4⟩, -⟩ := BX3.out.five))
     refine ⟨⟨i + 1, _, rfl, ?_, LT.out, H2.out, K2.out, BX3.out⟩, ?_⟩
     ·first | rfl | exact congrArg (Value.int .i64) (wri.trans (by omega))
     ·have := LT.out; simp only [intOf]; omega
   ·have q1i : ¬ (i : Int) < (n : Int) := by omega
    have q2 : i < m := by have := HMM.out; omega
    have q2i : (i : Int) < (m : Int) := by omega
    have Q2 := Lib.hid q2
    have W1 : Hid (WK wr B g S st2) := Lib.hid (by rw [← E2.out, ScM.CA_none (by rw [HN.out]; omega)]; exact WK1.out)
    have KK := Lib.hid KP.out
    clear q1 q2 hlt hi
    obtain ⟨p2, y2, u0, hAb, hy2, d0, rd2⟩ := Sl.at1 (SBB.out.kp KK.out HP.out) (by rw [HM.out]; exact Q2.out)
    rw [Nat.mul_one] at d0
    obtain ⟨bd, z0, rfl, he2, sl2⟩ := Rd.is_b rd2 rfl
    simp only [Array.mk.injEq, List.cons.injEq, and_true] at he2
    subst he2
    subst hAb
    obtain ⟨A8, d8, rfl⟩ : ∃ A c, u0 = .slice A bd.len c := by obtain ⟨A, c, e, -⟩ := sl2; exact ⟨A, c, e⟩
    have D1 := Lib.hid (scope_s (QB.out _ (List.mem_of_getElem? hy2)) (WBE.out _ (List.mem_of_getElem? hy2)).2 (k := 1) (ps := []) W1.out sl2 HP.out (nmt_nil _ B).nms (fun p hp => nomatch hp) (.inl rfl) (by have := ScM.CS_fit WL.out WB.out RL.out RB.out hy2 HC.out; rw [E2.out] at this; exact this))
    have E3 := Lib.hid (show ScM.scope 1 [] (ScM.runs (ScM.sem bd).2) st2 = ScM.CS l b (i + 1) st by rw [← E2.out, ← ScM.CS_some hy2])
    rw [E3.out] at D1
    clear rd2 sl2 hy2
    go_wp2_with (first
     |(go_at_call 19
       refine D1.out.mono ?_
       rintro e w2 ⟨rfl, h2, kp2⟩
       have H2 := Lib.hid h2
       have K2 := Lib.hid (KK.out.trans kp2)
       have BX3 := Lib.hid (kp2.blk _ _ _ BX1.out (by decide) (by decide) (fun _ => by decide))
       clear h2 kp2))
    refine ⟨⟨i + 1, _, rfl, ?_, LT.out, H2.out, K2.out, BX3.out⟩, ?_⟩
    ·first | rfl | exact congrArg (Value.int .i64) (wri.trans (by omega))
    ·have := LT.out; simp only [intOf]; omega
  ·have hl1 : ¬ (i : Int) < (M : Int) := by omega
   have IE := Lib.hid (show i = M by omega)
   clear hlt hi
   go_wp2_with fail
   go_end0
   have k := WK1.out
   rw [IE.out] at k
   exact ⟨rfl, k, KP.out⟩
end Go.Proofs.Yteakhlnnepjhpaa
