/- Texts of one proof behind one another: LiftB, TdT, TdC. -/
import Derived.Test.YtbcjpnmakcmndaaGreatDoorKa
import Derived.ProofKit
import Derived.OpenShut
import Derived.Carry
import Derived.Test.YtbcjpnmakcmndaaGreatDoorKv
import Derived.Test.YtbcjpnmakcmndaaGreatDoorKu
import Derived.Test.YtbcjpnmakcmndaaGreatDoorKy
/- The ends of the laws' rows: what a law's call leaves where everything below the old heap is as it was. -/
namespace Go.Proofs.YtbcjpnmakcmndaaGreatDoor
open Go.ChangeShapes Go.WideShapes Go.ChangeAt Go.RowKit Go.ChangeMaps

theorem own : ownKnob Tryz.prog.godebug = none := by kernel_rfl
theorem laidOut : laidOutB Tryz.prog = true := by kernel_rfl
theorem post_below {H : Type} {enc : TypeId × Value → H} {P : Program} {f : Func} {s : ChangeSpec} {W W' : World} {args : Array Value} {v : Value} {ds gs : List (DataW H)} {pa : List MemPlace}
  (hW : DataW.Whole enc P f.params.toList s.vars false W args.toList ds gs pa)
  (hres : DataW.TrodAll enc P W' W.heap.size (fun _ => false) false f.resultTypes.toList (v.resultList f.resultTypes.size) (s.fn H (ds ++ gs)).results [])
  (hargs : DataW.TrodAll enc P W' 0 (fun b => decide (b < W.heap.size)) true f.params.toList args.toList (s.fn H (ds ++ gs)).args pa)
  (hvars : DataW.TrodVars enc P W' (fun b => decide (b < W.heap.size)) s.vars (s.fn H (ds ++ gs)).vars [])
  (hb : Below W.heap.size W W') : s.post enc P f false true false false W args v W' :=
 ⟨ds, gs, pa, [], pa, [], hW, hres, hargs, hvars, hb.frame _, fun h => nomatch h⟩
theorem cell_lt {w : World} {p : Addr} {v : Value} (h : w.cell? p = some v) : p.block < w.heap.size := by
 rcases Nat.lt_or_ge p.block w.heap.size with k | k
 ·exact k
 ·simp [World.cell?, Array.getElem?_eq_none k] at h
end Go.Proofs.YtbcjpnmakcmndaaGreatDoor
/- The document's own answer: texts held against texts, read as rows of texts. -/
namespace Go.Proofs.YtbcjpnmakcmndaaGreatDoor
open Go.RowKit PrM
set_option linter.unusedVariables false
set_option linter.unusedSimpArgs false
set_option maxRecDepth 20000 in
set_option maxHeartbeats 4000000 in
theorem rtexts (w : World) (P Q : Nat → Prop) (l m : List ByteArray) (u v : Value) (h : Strs w P u l) (k : Strs w Q v m) (hb : l.length ≤ 100000) : Calls Tryz.prog 27 #[u, v] w (SR (decide (l = m)) w) := by
 obtain ⟨A, c, rfl⟩ := strs_slice h
 obtain ⟨B, d, rfl⟩ := strs_slice k
 obtain ⟨n, hn⟩ : ∃ n, l.length = n := ⟨_, rfl⟩
 obtain ⟨q, hq⟩ : ∃ q, m.length = q := ⟨_, rfl⟩
 rw [hn] at h hb ⊢
 rw [hq] at k ⊢
 have HX := Lib.hid h
 have HY := Lib.hid k
 have HN := Lib.hid hn
 have HM := Lib.hid hq
 have n0 : (0 : Int) ≤ (n : Int) := by omega
 have n1 : (n : Int) ≤ 100000 := by omega
 clear h k hn hq hb
 by_cases hnm : n = q
 ·subst hnm
  go_enter Tryz.func27, Tryz.ntmps27
  go_wp2_with fail
  go_loopw [5] (fun u13 wr => ∃ (i : Nat), u13 = .int .i64 (i : Int) ∧ i ≤ n ∧ l.take i = m.take i ∧ Below w.heap.size w wr) (fun u13 _ => (n : Int).toNat - (intOf u13).toNat)
  case atStart => exact ⟨0, rfl, Nat.zero_le _, by rw [List.take_zero, List.take_zero], Below.refl _ _⟩
  case round =>
   obtain ⟨i, rfl, hi, hs, hbl⟩ := hrel
   have HB := Lib.hid hbl
   have HS := Lib.hid hs
   have i0 : (0 : Int) ≤ (i : Int) := by omega
   have wi : wrap64 ((i : Int) + 1) = (i : Int) + 1 := by unfold wrap64; omega
   clear hbl hs
   by_cases hlt : i < n
   ·have hl : i < l.length := by rw [HN.out]; exact hlt
    have hm : i < m.length := by rw [HM.out]; exact hlt
    obtain ⟨p, rfl, c0⟩ := Strs.at (Strs.bel HB.out HX.out) hl
    obtain ⟨r, rfl, d0⟩ := Strs.at (Strs.bel HB.out HY.out) hm
    obtain ⟨x, hx⟩ : ∃ x, l[i] = x := ⟨_, rfl⟩
    obtain ⟨y, hy⟩ : ∃ y, m[i] = y := ⟨_, rfl⟩
    rw [hx] at c0
    rw [hy] at d0
    have HXE := Lib.hid (show l[i]? = some x by rw [List.getElem?_eq_getElem hl, hx])
    have HYE := Lib.hid (show m[i]? = some y by rw [List.getElem?_eq_getElem hm, hy])
    have hl1 : (i : Int) < (n : Int) := by omega
    have HLT := Lib.hid hlt
    clear hi hlt hx hy hl hm
    by_cases hxy : x = y
    ·have e1 : (x.toList == y.toList) = true := by rw [hxy]; simp
     have HE := Lib.hid hxy
     clear hxy
     go_wp2_with fail
     go_region
     go_wp2_with fail
     refine ⟨⟨i + 1, rfl, (by have := HLT.out; omega), ?_, HB.out.drew⟩, ?_⟩
     ·rw [List.take_add_one, List.take_add_one, HS.out, HXE.out, HYE.out, HE.out]
     ·have := HLT.out
      simp only [intOf]
      omega
    ·have e1 : (x.toList == y.toList) = false := by rw [beq_eq_false_iff_ne]; exact fun e => hxy ((tl_eq x y).1 e)
     have HE := Lib.hid (show l ≠ m from fun e => by
      have h1 := HXE.out
      have h2 := HYE.out
      subst e
      rw [h1] at h2
      exact hxy (Option.some.inj h2))
     clear hxy
     go_wp2_with fail
     go_region
     go_wp2_with fail
     go_ret
     exact ⟨by rw [decide_eq_false HE.out]; rfl, HB.out.drew⟩
   ·have hl1 : ¬ (i : Int) < (n : Int) := by omega
    have e : i = n := by omega
    have HT := Lib.hid (show l = m by
     have := HS.out
     rwa [List.take_of_length_le (by have := HN.out; omega), List.take_of_length_le (by have := HM.out; omega)] at this)
    clear hlt hi e
    go_wp2_with fail
    go_ret
    exact ⟨by rw [decide_eq_true HT.out]; rfl, HB.out⟩
 ·have ne1 : ((n : Int) != (q : Int)) = true := by
   rw [bne_iff_ne]
   omega
  have HT := Lib.hid (show l ≠ m from fun e => hnm (by rw [← HN.out, ← HM.out, e]))
  clear hnm
  go_enter Tryz.func27, Tryz.ntmps27
  go_wp2_with fail
  go_ret
  exact ⟨by rw [decide_eq_false HT.out]; rfl, Below.refl _ _⟩
end Go.Proofs.YtbcjpnmakcmndaaGreatDoor
/- The document's own answer: how many statements and expressions, how deep (printed by gentdc.py). -/
namespace Go.Proofs.YtbcjpnmakcmndaaGreatDoor
open Go.RowKit PrM
set_option linter.unusedVariables false
set_option linter.unusedSimpArgs false
theorem sl_count {w : World} {P : Nat → Prop} {x : X} {z : Nat} {v : Value} (h : Sl x.len (Rd w P x).row z v) : x.count = countL x.elems := by
 obtain ⟨A, c, -, -, -, hr⟩ := h
 exact row_count x z A 0 hr
theorem sl_deep {w : World} {P : Nat → Prop} {x : X} {z : Nat} {v : Value} (h : Sl x.len (Rd w P x).row z v) : x.deep = deepL x.elems := by
 obtain ⟨A, c, -, -, -, hr⟩ := h
 exact row_deep x z A 0 hr
theorem sl_slice2 {w : World} {P : Nat → Prop} {x : X} {z : Nat} {v : Value} (h : Sl x.len (Rd w P x).row z v) : ∃ A n c, v = .slice A n c ∧ n = x.len := by
 obtain ⟨A, c, e, -⟩ := h
 exact ⟨A, _, c, e, rfl⟩
theorem wrap_id (n : Nat) (h : n ≤ 100000) : wrap64 (n : Int) = (n : Int) := by unfold wrap64; omega
def RCntE (l : X) : Prop := ∀ (w : World) (P : Nat → Prop) (v : Value), Sl l.len (Rd w P l).row 7 v → Calls Tryz.prog 34 #[v] w (CR l.count w)
def RCntS (l : X) : Prop := ∀ (w : World) (P : Nat → Prop) (v : Value), Sl l.len (Rd w P l).row 5 v → Calls Tryz.prog 16 #[v] w (CR l.count w)
def CntQ (x : X) : Prop := x.fit 100000 → match x with
 | .e _ _ _ _ _ l f => RCntE l ∧ ∀ y ∈ f.elems, ∀ ps b, y = .f ps b → RCntS b
 | .f _ b => RCntS b
 | .s _ _ _ l b => RCntE l ∧ ∀ y ∈ b.elems, ∀ m, y = .blk m → RCntS m
 | .blk m => RCntS m
 | _ => True
set_option maxRecDepth 20000 in
set_option maxHeartbeats 4000000 in
theorem rcnt_e (w : World) (P : Nat → Prop) (x : X) (A : Option Addr) (n c : Nat) (h : Sl x.len (Rd w P x).row 7 (.slice A n c)) (hb : x.fit 100000) (H : ∀ y ∈ x.elems, CntQ y) : Calls Tryz.prog 34 #[.slice A n c] w (CR x.count w) := by
 have HX := Lib.hid h
 have HQ := Lib.hid (fun y hy => H y hy (fit_elems x hb y hy))
 have HFE := Lib.hid (fit_elems x hb)
 have HN := Lib.hid (Sl.len h).1
 have HEX := Lib.hid (sl_count h)
 have hn := X.fit_len x hb
 rw [← HN.out] at hn
 have n0 : (0 : Int) ≤ (n : Int) := by omega
 have n1 : (n : Int) ≤ 100000 := by omega
 clear h H hb
 go_enter Tryz.func34, Tryz.ntmps34
 go_wp2_with fail
 go_loopw [3, 4, 5] (fun u3 u4 u5 wr => ∃ (i : Nat) (v : Value), u3 = .int .i64 (wrap64 ((n : Int) - i + countL (x.elems.take i))) ∧ u4 = .int .i64 (i : Int) ∧ u5 = v ∧ i ≤ n ∧ Below w.heap.size w wr) (fun _ u4 _ _ => (n : Int).toNat - (intOf u4).toNat)
 case atStart => exact ⟨0, undef, by rw [List.take_zero]; show Value.int .i64 (n : Int) = .int .i64 (wrap64 ((n : Int) - ((0 : Nat) : Int) + 0)); rw [show (n : Int) - ((0 : Nat) : Int) + 0 = (n : Int) by omega, wrap_id n (by omega)], rfl, rfl, Nat.zero_le _, Below.refl _ _⟩
 case round =>
  obtain ⟨i, v, rfl, rfl, rfl, hi, hbl⟩ := hrel
  have HB := Lib.hid hbl
  have i0 : (0 : Int) ≤ (i : Int) := by omega
  have wri : wrap64 ((i : Int) + 1) = (i : Int) + 1 := by unfold wrap64; omega
  clear hbl
  obtain ⟨s, hs⟩ : ∃ s : Int, (n : Int) - i + countL (x.elems.take i) = s := ⟨_, rfl⟩
  rw [hs]
  have HS := Lib.hid hs
  clear hs
  by_cases hlt : i < n
  ·skip
   obtain ⟨p, y, v0, v1, v2, v3, v4, v5, v6, rfl, hy, ⟨c0, c1, c2, c3, c4, c5, c6⟩, rd⟩ := Sl.at7 (Sl.bel HB.out HX.out) (by rw [← HN.out]; exact hlt)
   obtain ⟨k, a, m, sv, op, l, f, w5, w6, rfl, he, sl, sf⟩ := Rd.is_e rd rfl
   simp only [Array.mk.injEq, List.cons.injEq, and_true] at he
   obtain ⟨rfl, rfl, rfl, rfl, rfl, rfl, rfl⟩ := he
   obtain ⟨A5, d5, rfl⟩ := sl_slice sl
   obtain ⟨A6, m, d6, rfl, hm⟩ := sl_slice2 sf
   have QY := HQ.out _ (List.mem_of_getElem? hy)
   have C1 := Lib.hid (QY.1 wr P _ sl)
   have Q2 := Lib.hid QY.2
   have FL := Lib.hid (X.fit_len f (HFE.out _ (List.mem_of_getElem? hy)).1.2)
   have HM := Lib.hid hm
   have FL2 := Lib.hid (show m ≤ 100000 by rw [hm]; exact FL.out)
   have SF := Lib.hid (sl_count sf)
   have HY := Lib.hid hy
   have HLT := Lib.hid hlt
   have hl1 : (i : Int) < (n : Int) := by omega
   clear hi hy rd QY sl sf hlt hm FL
   go_wp2_with (first | (go_at_call 34; refine C1.out.mono ?_; rintro e w1 ⟨rfl, b1⟩; have HB1 := Lib.hid (HB.out.trans (b1.mono HB.out.size)); clear b1))
   go_loopw [3, 5] (fun ua ub wi => ∃ k : Nat, ua = .int .i64 (wrap64 (s + l.count + countL (f.elems.take k))) ∧ ub = .int .i64 (k : Int) ∧ k ≤ m ∧ Below w.heap.size w wi) (fun _ ub _ => m - (intOf ub).toNat)
   case atStart => exact ⟨0, by rw [List.take_zero]; show Value.int .i64 (wrap64 (wrap64 s + wrap64 l.count)) = .int .i64 (wrap64 (s + l.count + 0)); rw [wrap_add, Int.add_zero], rfl, Nat.zero_le _, HB1.out⟩
   case round =>
    obtain ⟨k2, rfl, rfl, hk, hbl⟩ := hrel
    have HBI := Lib.hid hbl
    clear hbl
    obtain ⟨p2, y2, v0x, v1x, v2x, v3x, v4x, v5x, v6x, ep, hy2, ⟨c0, c1, c2, c3, c4, c5, c6⟩, rd⟩ := Sl.at7 (Sl.bel HBI.out HX.out) (by rw [← HN.out]; exact HLT.out)
    obtain rfl := Option.some.inj ep
    obtain rfl := Option.some.inj (HY.out.symm.trans hy2)
    obtain ⟨q5, q6, he, sl, sf⟩ := rd
    simp only [Array.mk.injEq, List.cons.injEq, and_true] at he
    obtain ⟨rfl, rfl, rfl, rfl, rfl, rfl, rfl⟩ := he
    obtain ⟨A7, m7, d7, rfl, hm7⟩ := sl_slice2 sf
    obtain rfl := hm7.trans HM.out.symm
    obtain ⟨A8, m8, d8, rfl, hm8⟩ := sl_slice2 sl
    clear hm7 hm8
    have k0 : (0 : Int) ≤ (k2 : Int) := by omega
    have fl := FL2.out
    have wk : wrap64 ((k2 : Int) + 1) = (k2 : Int) + 1 := by unfold wrap64; omega
    have m1 : (m7 : Int) ≤ 100000 := by omega
    clear fl
    obtain ⟨t, ht⟩ : ∃ t : Int, s + l.count + countL (f.elems.take k2) = t := ⟨_, rfl⟩
    rw [ht]
    have HT := Lib.hid ht
    clear ht
    by_cases hlk : k2 < m7
    ·obtain ⟨q, z, u0, u1, rfl, hz, ⟨t0, t1⟩, rz⟩ := Sl.at2 sf (by rw [← HM.out]; exact hlk)
     obtain ⟨ps, b, x0, x1, rfl, e2, st2, sb⟩ := Rd.is_f rz rfl
     simp only [Array.mk.injEq, List.cons.injEq, and_true] at e2
     obtain ⟨rfl, rfl⟩ := e2
     obtain ⟨A9, d9, rfl⟩ := sl_slice sb
     have C2 := Lib.hid (Q2.out _ (List.mem_of_getElem? hz) ps b rfl wr P _ sb)
     have HZ2 := Lib.hid (countL_take f.elems k2 _ hz)
     have hl2 : (k2 : Int) < (m7 : Int) := by omega
     have HLK := Lib.hid hlk
     clear hz rz st2 sb sf sl hk hlk hy2 ep
     go_wp2_with (first | (go_at_call 16; refine C2.out.mono ?_; rintro e w2 ⟨rfl, b2⟩; have HB2 := Lib.hid (HBI.out.trans (b2.mono HBI.out.size)); clear b2))
     refine ⟨⟨k2 + 1, ?_, ?_, ?_, ?_⟩, ?_⟩
     ·have e1 : (X.f ps b).count = b.count := rfl
      show Value.int .i64 (wrap64 (wrap64 t + wrap64 b.count)) = _
      rw [HZ2.out, e1, ← Int.add_assoc, HT.out, wrap_add]
     ·first | rfl | exact congrArg (Value.int .i64) (wk.trans (by omega))
     ·exact HLK.out
     ·exact HB2.out
     ·have := HLK.out; simp only [intOf]; omega
    ·have hl2 : ¬ (k2 : Int) < (m7 : Int) := by omega
     have hk3 : k2 = m7 := by omega
     have HTT := Lib.hid (show f.elems.take k2 = f.elems from List.take_of_length_le (by rw [elems_len, ← HM.out]; omega))
     have HTX := Lib.hid (countL_take x.elems i _ HY.out)
     clear hlk hk hk3 sf sl hy2
     go_wp2_with fail
     refine ⟨⟨i + 1, _, ?_, ?_, rfl, ?_, HBI.out⟩, ?_⟩
     ·rw [HTX.out, ← HT.out, ← HS.out, HTT.out]
      have e1 : (X.e k a m sv op l f).count = 1 + l.count + f.count := rfl
      rw [e1, SF.out]
      exact congrArg (fun q => Value.int .i64 (wrap64 q)) (by omega)
     ·rfl
     ·have := HLT.out; omega
     ·have := HLT.out; simp only [intOf]; omega
  ·have hl1 : ¬ (i : Int) < (n : Int) := by omega
   have HT := Lib.hid (show x.elems.take i = x.elems from List.take_of_length_le (by rw [elems_len, ← HN.out]; omega))
   have HI := Lib.hid (show i = n by omega)
   clear hlt hi
   go_wp2_with fail
   go_ret
   refine ⟨?_, HB.out⟩
   show Ending.returned (.int .i64 (wrap64 s)) = .returned (.int .i64 (wrap64 x.count))
   rw [HEX.out, ← HS.out, HT.out, HI.out]
   exact congrArg (fun q => Ending.returned (.int .i64 (wrap64 q))) (by omega)
set_option maxRecDepth 20000 in
set_option maxHeartbeats 4000000 in
theorem rcnt_s (w : World) (P : Nat → Prop) (x : X) (A : Option Addr) (n c : Nat) (h : Sl x.len (Rd w P x).row 5 (.slice A n c)) (hb : x.fit 100000) (H : ∀ y ∈ x.elems, CntQ y) : Calls Tryz.prog 16 #[.slice A n c] w (CR x.count w) := by
 have HX := Lib.hid h
 have HQ := Lib.hid (fun y hy => H y hy (fit_elems x hb y hy))
 have HFE := Lib.hid (fit_elems x hb)
 have HN := Lib.hid (Sl.len h).1
 have HEX := Lib.hid (sl_count h)
 have hn := X.fit_len x hb
 rw [← HN.out] at hn
 have n0 : (0 : Int) ≤ (n : Int) := by omega
 have n1 : (n : Int) ≤ 100000 := by omega
 clear h H hb
 go_enter Tryz.func16, Tryz.ntmps16
 go_wp2_with fail
 go_loopw [3, 4, 5] (fun u3 u4 u5 wr => ∃ (i : Nat) (v : Value), u3 = .int .i64 (wrap64 ((n : Int) - i + countL (x.elems.take i))) ∧ u4 = .int .i64 (i : Int) ∧ u5 = v ∧ i ≤ n ∧ Below w.heap.size w wr) (fun _ u4 _ _ => (n : Int).toNat - (intOf u4).toNat)
 case atStart => exact ⟨0, undef, by rw [List.take_zero]; show Value.int .i64 (n : Int) = .int .i64 (wrap64 ((n : Int) - ((0 : Nat) : Int) + 0)); rw [show (n : Int) - ((0 : Nat) : Int) + 0 = (n : Int) by omega, wrap_id n (by omega)], rfl, rfl, Nat.zero_le _, Below.refl _ _⟩
 case round =>
  obtain ⟨i, v, rfl, rfl, rfl, hi, hbl⟩ := hrel
  have HB := Lib.hid hbl
  have i0 : (0 : Int) ≤ (i : Int) := by omega
  have wri : wrap64 ((i : Int) + 1) = (i : Int) + 1 := by unfold wrap64; omega
  clear hbl
  obtain ⟨s, hs⟩ : ∃ s : Int, (n : Int) - i + countL (x.elems.take i) = s := ⟨_, rfl⟩
  rw [hs]
  have HS := Lib.hid hs
  clear hs
  by_cases hlt : i < n
  ·skip
   obtain ⟨p, y, v0, v1, v2, v3, v4, rfl, hy, ⟨c0, c1, c2, c3, c4⟩, rd⟩ := Sl.at5 (Sl.bel HB.out HX.out) (by rw [← HN.out]; exact hlt)
   obtain ⟨k, a, ns, l, f, w2, w3, w4, rfl, he, st, sl, sf⟩ := Rd.is_s rd rfl
   simp only [Array.mk.injEq, List.cons.injEq, and_true] at he
   obtain ⟨rfl, rfl, rfl, rfl, rfl⟩ := he
   obtain ⟨A5, d5, rfl⟩ := sl_slice sl
   obtain ⟨A6, m, d6, rfl, hm⟩ := sl_slice2 sf
   have QY := HQ.out _ (List.mem_of_getElem? hy)
   have C1 := Lib.hid (QY.1 wr P _ sl)
   have Q2 := Lib.hid QY.2
   have FL := Lib.hid (X.fit_len f (HFE.out _ (List.mem_of_getElem? hy)).1.2.2)
   have HM := Lib.hid hm
   have FL2 := Lib.hid (show m ≤ 100000 by rw [hm]; exact FL.out)
   have SF := Lib.hid (sl_count sf)
   have HY := Lib.hid hy
   have HLT := Lib.hid hlt
   have hl1 : (i : Int) < (n : Int) := by omega
   clear hi hy rd QY sl sf hlt hm FL st
   go_wp2_with (first | (go_at_call 34; refine C1.out.mono ?_; rintro e w1 ⟨rfl, b1⟩; have HB1 := Lib.hid (HB.out.trans (b1.mono HB.out.size)); clear b1))
   go_loopw [3, 5] (fun ua ub wi => ∃ k : Nat, ua = .int .i64 (wrap64 (s + l.count + countL (f.elems.take k))) ∧ ub = .int .i64 (k : Int) ∧ k ≤ m ∧ Below w.heap.size w wi) (fun _ ub _ => m - (intOf ub).toNat)
   case atStart => exact ⟨0, by rw [List.take_zero]; show Value.int .i64 (wrap64 (wrap64 s + wrap64 l.count)) = .int .i64 (wrap64 (s + l.count + 0)); rw [wrap_add, Int.add_zero], rfl, Nat.zero_le _, HB1.out⟩
   case round =>
    obtain ⟨k2, rfl, rfl, hk, hbl⟩ := hrel
    have HBI := Lib.hid hbl
    clear hbl
    obtain ⟨p2, y2, v0x, v1x, v2x, v3x, v4x, ep, hy2, ⟨c0, c1, c2, c3, c4⟩, rd⟩ := Sl.at5 (Sl.bel HBI.out HX.out) (by rw [← HN.out]; exact HLT.out)
    obtain rfl := Option.some.inj ep
    obtain rfl := Option.some.inj (HY.out.symm.trans hy2)
    obtain ⟨q2, q5, q6, he, st, sl, sf⟩ := rd
    simp only [Array.mk.injEq, List.cons.injEq, and_true] at he
    obtain ⟨rfl, rfl, rfl, rfl, rfl⟩ := he
    obtain ⟨A7, m7, d7, rfl, hm7⟩ := sl_slice2 sf
    obtain rfl := hm7.trans HM.out.symm
    obtain ⟨A8, m8, d8, rfl, hm8⟩ := sl_slice2 sl
    clear hm7 hm8
    have k0 : (0 : Int) ≤ (k2 : Int) := by omega
    have fl := FL2.out
    have wk : wrap64 ((k2 : Int) + 1) = (k2 : Int) + 1 := by unfold wrap64; omega
    have m1 : (m7 : Int) ≤ 100000 := by omega
    clear fl
    obtain ⟨t, ht⟩ : ∃ t : Int, s + l.count + countL (f.elems.take k2) = t := ⟨_, rfl⟩
    rw [ht]
    have HT := Lib.hid ht
    clear ht
    by_cases hlk : k2 < m7
    ·obtain ⟨q, z, u0, rfl, hz, t0, rz⟩ := Sl.at1 sf (by rw [← HM.out]; exact hlk)
     rw [Nat.mul_one] at t0
     obtain ⟨b, x0, rfl, e2, sb⟩ := Rd.is_b rz rfl
     simp only [Array.mk.injEq, List.cons.injEq, and_true] at e2
     subst e2
     obtain ⟨A9, d9, rfl⟩ := sl_slice sb
     have C2 := Lib.hid (Q2.out _ (List.mem_of_getElem? hz) b rfl wr P _ sb)
     have HZ2 := Lib.hid (countL_take f.elems k2 _ hz)
     have hl2 : (k2 : Int) < (m7 : Int) := by omega
     have HLK := Lib.hid hlk
     clear hz rz sb sf sl hk hlk hy2 ep st
     go_wp2_with (first | (go_at_call 16; refine C2.out.mono ?_; rintro e w2 ⟨rfl, b2⟩; have HB2 := Lib.hid (HBI.out.trans (b2.mono HBI.out.size)); clear b2))
     refine ⟨⟨k2 + 1, ?_, ?_, ?_, ?_⟩, ?_⟩
     ·have e1 : (X.blk b).count = b.count := rfl
      show Value.int .i64 (wrap64 (wrap64 t + wrap64 b.count)) = _
      rw [HZ2.out, e1, ← Int.add_assoc, HT.out, wrap_add]
     ·first | rfl | exact congrArg (Value.int .i64) (wk.trans (by omega))
     ·exact HLK.out
     ·exact HB2.out
     ·have := HLK.out; simp only [intOf]; omega
    ·have hl2 : ¬ (k2 : Int) < (m7 : Int) := by omega
     have hk3 : k2 = m7 := by omega
     have HTT := Lib.hid (show f.elems.take k2 = f.elems from List.take_of_length_le (by rw [elems_len, ← HM.out]; omega))
     have HTX := Lib.hid (countL_take x.elems i _ HY.out)
     clear hlk hk hk3 sf sl hy2 st
     go_wp2_with fail
     refine ⟨⟨i + 1, _, ?_, ?_, rfl, ?_, HBI.out⟩, ?_⟩
     ·rw [HTX.out, ← HT.out, ← HS.out, HTT.out]
      have e1 : (X.s k a ns l f).count = 1 + l.count + f.count := rfl
      rw [e1, SF.out]
      exact congrArg (fun q => Value.int .i64 (wrap64 q)) (by omega)
     ·rfl
     ·have := HLT.out; omega
     ·have := HLT.out; simp only [intOf]; omega
  ·have hl1 : ¬ (i : Int) < (n : Int) := by omega
   have HT := Lib.hid (show x.elems.take i = x.elems from List.take_of_length_le (by rw [elems_len, ← HN.out]; omega))
   have HI := Lib.hid (show i = n by omega)
   clear hlt hi
   go_wp2_with fail
   go_ret
   refine ⟨?_, HB.out⟩
   show Ending.returned (.int .i64 (wrap64 s)) = .returned (.int .i64 (wrap64 x.count))
   rw [HEX.out, ← HS.out, HT.out, HI.out]
   exact congrArg (fun q => Ending.returned (.int .i64 (wrap64 q))) (by omega)
theorem rcnt_row_e {l : X} (hl : l.fit 100000) (H : ∀ y ∈ l.elems, CntQ y) : RCntE l := fun w P v h => by
 obtain ⟨A, c, rfl⟩ := sl_slice h
 exact rcnt_e w P l A l.len c h hl H
theorem rcnt_row_s {l : X} (hl : l.fit 100000) (H : ∀ y ∈ l.elems, CntQ y) : RCntS l := fun w P v h => by
 obtain ⟨A, c, rfl⟩ := sl_slice h
 exact rcnt_s w P l A l.len c h hl H
theorem rcnt_all (x : X) : CntQ x ∧ ∀ y ∈ x.elems, CntQ y :=
 X.all (S := CntQ) (fun _ _ _ _ _ _ f hl hf fit => ⟨rcnt_row_e fit.1.1 hl, fun y hy ps b e => by subst e; exact hf _ hy (fit_elems f fit.1.2 _ hy)⟩)
  (fun _ _ hb fit => rcnt_row_s fit.1.2 hb) (fun _ _ _ _ b hl hb fit => ⟨rcnt_row_e fit.1.2.1 hl, fun y hy m e => by subst e; exact hb _ hy (fit_elems b fit.1.2.2 _ hy)⟩)
  (fun _ hl fit => rcnt_row_s fit hl) (fun _ => trivial) (fun _ _ _ => trivial) x
theorem rcnt_any {l : X} (hl : l.fit 100000) : RCntS l := rcnt_row_s hl (rcnt_all l).2
def RDepE (l : X) : Prop := ∀ (w : World) (P : Nat → Prop) (v : Value), Sl l.len (Rd w P l).row 7 v → Calls Tryz.prog 37 #[v] w (DR l.deep w)
def RDepS (l : X) : Prop := ∀ (w : World) (P : Nat → Prop) (v : Value), Sl l.len (Rd w P l).row 5 v → Calls Tryz.prog 18 #[v] w (DR (if l.len = 0 then 0 else wrap64 (1 + l.deep)) w)
def DepQ (x : X) : Prop := x.fit 100000 → match x with
 | .e _ _ _ _ _ l f => RDepE l ∧ ∀ y ∈ f.elems, ∀ ps b, y = .f ps b → RDepS b
 | .f _ b => RDepS b
 | .s _ _ _ l b => RDepE l ∧ ∀ y ∈ b.elems, ∀ m, y = .blk m → RDepS m
 | .blk m => RDepS m
 | _ => True
set_option maxRecDepth 20000 in
set_option maxHeartbeats 4000000 in
theorem rdep_e (w : World) (P : Nat → Prop) (x : X) (A : Option Addr) (n c : Nat) (h : Sl x.len (Rd w P x).row 7 (.slice A n c)) (hb : x.fit 100000) (H : ∀ y ∈ x.elems, DepQ y) : Calls Tryz.prog 37 #[.slice A n c] w (DR x.deep w) := by
 have HX := Lib.hid h
 have HQ := Lib.hid (fun y hy => H y hy (fit_elems x hb y hy))
 have HFE := Lib.hid (fit_elems x hb)
 have HN := Lib.hid (Sl.len h).1
 have HEX := Lib.hid (sl_deep h)
 have hn := X.fit_len x hb
 rw [← HN.out] at hn
 have n0 : (0 : Int) ≤ (n : Int) := by omega
 have n1 : (n : Int) ≤ 100000 := by omega
 clear h H hb
 go_enter Tryz.func37, Tryz.ntmps37
 go_wp2_with fail
 go_loopw [3, 4, 5, 6] (fun u3 u4 u5 u6 wr => ∃ (i : Nat) (v v2 : Value), u3 = .int .i64 (deepL (x.elems.take i)) ∧ u4 = .int .i64 (i : Int) ∧ u5 = v ∧ u6 = v2 ∧ i ≤ n ∧ Below w.heap.size w wr) (fun _ u4 _ _ _ => (n : Int).toNat - (intOf u4).toNat)
 case atStart => exact ⟨0, undef, undef, by rw [List.take_zero, deepL_nil], rfl, rfl, rfl, Nat.zero_le _, Below.refl _ _⟩
 case round =>
  obtain ⟨i, v, v2, rfl, rfl, rfl, rfl, hi, hbl⟩ := hrel
  have HB := Lib.hid hbl
  have i0 : (0 : Int) ≤ (i : Int) := by omega
  have wri : wrap64 ((i : Int) + 1) = (i : Int) + 1 := by unfold wrap64; omega
  clear hbl
  obtain ⟨s, hs⟩ : ∃ s : Int, deepL (x.elems.take i) = s := ⟨_, rfl⟩
  rw [hs]
  have HS := Lib.hid hs
  clear hs
  by_cases hlt : i < n
  ·skip
   obtain ⟨p, y, v0, v1, v2, v3, v4, v5, v6, rfl, hy, ⟨c0, c1, c2, c3, c4, c5, c6⟩, rd⟩ := Sl.at7 (Sl.bel HB.out HX.out) (by rw [← HN.out]; exact hlt)
   obtain ⟨k, a, m, sv, op, l, f, w5, w6, rfl, he, sl, sf⟩ := Rd.is_e rd rfl
   simp only [Array.mk.injEq, List.cons.injEq, and_true] at he
   obtain ⟨rfl, rfl, rfl, rfl, rfl, rfl, rfl⟩ := he
   obtain ⟨A5, d5, rfl⟩ := sl_slice sl
   obtain ⟨A6, m, d6, rfl, hm⟩ := sl_slice2 sf
   have QY := HQ.out _ (List.mem_of_getElem? hy)
   have C1 := Lib.hid (QY.1 wr P _ sl)
   have Q2 := Lib.hid QY.2
   have FL := Lib.hid (X.fit_len f (HFE.out _ (List.mem_of_getElem? hy)).1.2)
   have LP := Lib.hid (show 0 ≤ l.deep by rw [sl_deep sl]; exact deepL_pos _)
   have HM := Lib.hid hm
   have FL2 := Lib.hid (show m ≤ 100000 by rw [hm]; exact FL.out)
   have SF := Lib.hid (sl_deep sf)
   have HY := Lib.hid hy
   have HLT := Lib.hid hlt
   have hl1 : (i : Int) < (n : Int) := by omega
   clear hi hy rd QY sl sf hlt hm FL
   go_wp2_with (first | (go_at_call 37; refine C1.out.mono ?_; rintro e w1 ⟨rfl, b1⟩; have HB1 := Lib.hid (HB.out.trans (b1.mono HB.out.size)); clear b1))
   go_loopw [5, 6] (fun ua ub wi => ∃ k : Nat, ua = .int .i64 (max l.deep (deepL (f.elems.take k))) ∧ ub = .int .i64 (k : Int) ∧ k ≤ m ∧ Below w.heap.size w wi) (fun _ ub _ => m - (intOf ub).toNat)
   case atStart => exact ⟨0, by rw [List.take_zero, deepL_nil, Int.max_eq_left LP.out], rfl, Nat.zero_le _, HB1.out⟩
   case round =>
    obtain ⟨k2, rfl, rfl, hk, hbl⟩ := hrel
    have HBI := Lib.hid hbl
    clear hbl
    obtain ⟨p2, y2, v0x, v1x, v2x, v3x, v4x, v5x, v6x, ep, hy2, ⟨c0, c1, c2, c3, c4, c5, c6⟩, rd⟩ := Sl.at7 (Sl.bel HBI.out HX.out) (by rw [← HN.out]; exact HLT.out)
    obtain rfl := Option.some.inj ep
    obtain rfl := Option.some.inj (HY.out.symm.trans hy2)
    obtain ⟨q5, q6, he, sl, sf⟩ := rd
    simp only [Array.mk.injEq, List.cons.injEq, and_true] at he
    obtain ⟨rfl, rfl, rfl, rfl, rfl, rfl, rfl⟩ := he
    obtain ⟨A7, m7, d7, rfl, hm7⟩ := sl_slice2 sf
    obtain rfl := hm7.trans HM.out.symm
    obtain ⟨A8, m8, d8, rfl, hm8⟩ := sl_slice2 sl
    clear hm7 hm8
    have k0 : (0 : Int) ≤ (k2 : Int) := by omega
    have fl := FL2.out
    have wk : wrap64 ((k2 : Int) + 1) = (k2 : Int) + 1 := by unfold wrap64; omega
    have m1 : (m7 : Int) ≤ 100000 := by omega
    clear fl
    obtain ⟨t, ht⟩ : ∃ t : Int, max l.deep (deepL (f.elems.take k2)) = t := ⟨_, rfl⟩
    rw [ht]
    have HT := Lib.hid ht
    clear ht
    by_cases hlk : k2 < m7
    ·obtain ⟨q, z, u0, u1, rfl, hz, ⟨t0, t1⟩, rz⟩ := Sl.at2 sf (by rw [← HM.out]; exact hlk)
     obtain ⟨ps, b, x0, x1, rfl, e2, st2, sb⟩ := Rd.is_f rz rfl
     simp only [Array.mk.injEq, List.cons.injEq, and_true] at e2
     obtain ⟨rfl, rfl⟩ := e2
     obtain ⟨A9, d9, rfl⟩ := sl_slice sb
     have C2 := Lib.hid (Q2.out _ (List.mem_of_getElem? hz) ps b rfl wr P _ sb)
     have HZ2 := Lib.hid (deepL_take f.elems k2 _ hz)
     have hl2 : (k2 : Int) < (m7 : Int) := by omega
     have HLK := Lib.hid hlk
     clear hz rz st2 sb sf sl hk hlk hy2 ep
     obtain ⟨g2, hg2⟩ : ∃ g2 : Int, (if b.len = 0 then 0 else wrap64 (1 + b.deep)) = g2 := ⟨_, rfl⟩
     rw [hg2] at C2
     have mx := run_mx t g2
     have HG2 := Lib.hid hg2
     clear hg2
     go_wp2_with (first | (go_at_call 18; refine C2.out.mono ?_; rintro e w2 ⟨rfl, b2⟩; have HB2 := Lib.hid (HBI.out.trans (b2.mono HBI.out.size)); clear b2))
     refine ⟨⟨k2 + 1, ?_, ?_, ?_, ?_⟩, ?_⟩
     ·rw [HZ2.out, ← HT.out]
      have hd : (X.f ps b).deep = g2 := HG2.out
      rw [hd]
      exact congrArg (Value.int .i64) (by omega)
     ·first | rfl | exact congrArg (Value.int .i64) (wk.trans (by omega))
     ·exact HLK.out
     ·exact HB2.out
     ·have := HLK.out; simp only [intOf]; omega
    ·have hl2 : ¬ (k2 : Int) < (m7 : Int) := by omega
     have hk3 : k2 = m7 := by omega
     have HTT := Lib.hid (show f.elems.take k2 = f.elems from List.take_of_length_le (by rw [elems_len, ← HM.out]; omega))
     have HTX := Lib.hid (deepL_take x.elems i _ HY.out)
     clear hlk hk hk3 sf sl hy2
     obtain ⟨g3, hg3⟩ : ∃ g3 : Int, wrap64 (t + 1) = g3 := ⟨_, rfl⟩
     have mx := run_mx s g3
     have HG3 := Lib.hid hg3
     go_wp2_with fail
     refine ⟨⟨i + 1, _, _, ?_, ?_, rfl, rfl, ?_, HBI.out⟩, ?_⟩
     ·rw [HTX.out, HS.out]
      have e1 : (X.e k a m sv op l f).deep = wrap64 (1 + max l.deep f.deep) := rfl
      rw [e1, SF.out, ← HG3.out, ← HT.out, HTT.out, Int.add_comm]
     ·rfl
     ·have := HLT.out; omega
     ·have := HLT.out; simp only [intOf]; omega
  ·have hl1 : ¬ (i : Int) < (n : Int) := by omega
   have HT := Lib.hid (show x.elems.take i = x.elems from List.take_of_length_le (by rw [elems_len, ← HN.out]; omega))
   have HI := Lib.hid (show i = n by omega)
   clear hlt hi
   go_wp2_with fail
   go_ret
   refine ⟨?_, HB.out⟩
   show Ending.returned (.int .i64 s) = .returned (.int .i64 x.deep)
   rw [HEX.out, ← HS.out, HT.out]
set_option maxRecDepth 20000 in
set_option maxHeartbeats 4000000 in
theorem rdep_s (w : World) (P : Nat → Prop) (x : X) (A : Option Addr) (n c : Nat) (h : Sl x.len (Rd w P x).row 5 (.slice A n c)) (hb : x.fit 100000) (H : ∀ y ∈ x.elems, DepQ y) : Calls Tryz.prog 18 #[.slice A n c] w (DR (if x.len = 0 then 0 else wrap64 (1 + x.deep)) w) := by
 have HX := Lib.hid h
 have HQ := Lib.hid (fun y hy => H y hy (fit_elems x hb y hy))
 have HFE := Lib.hid (fit_elems x hb)
 have HN := Lib.hid (Sl.len h).1
 have HEX := Lib.hid (sl_deep h)
 have hn := X.fit_len x hb
 rw [← HN.out] at hn
 have n0 : (0 : Int) ≤ (n : Int) := by omega
 have n1 : (n : Int) ≤ 100000 := by omega
 clear h H hb
 obtain ⟨g, hg⟩ : ∃ g, (if x.len = 0 then 0 else wrap64 (1 + x.deep)) = g := ⟨_, rfl⟩
 rw [hg]
 have HG := Lib.hid hg
 clear hg
 by_cases hz : n = 0
 ·have HZ := Lib.hid (show g = 0 by rw [← HG.out, if_pos (by rw [← HN.out]; exact hz)])
  subst hz
  go_enter Tryz.func18, Tryz.ntmps18
  go_wp2_with fail
  go_ret
  exact ⟨by rw [HZ.out]; rfl, Below.refl _ _⟩
 have HZ := Lib.hid (show g = wrap64 (1 + x.deep) by rw [← HG.out, if_neg (by rw [← HN.out]; exact hz)])
 have z1 : ((n : Int) == 0) = false := by simpa using hz
 clear hz HG
 go_enter Tryz.func18, Tryz.ntmps18
 go_wp2_with fail
 go_loopw [3, 4, 5] (fun u3 u4 u5 wr => ∃ (i : Nat) (v : Value), u3 = .int .i64 (deepL (x.elems.take i)) ∧ u4 = .int .i64 (i : Int) ∧ u5 = v ∧ i ≤ n ∧ Below w.heap.size w wr) (fun _ u4 _ _ => (n : Int).toNat - (intOf u4).toNat)
 case atStart => exact ⟨0, undef, by rw [List.take_zero, deepL_nil], rfl, rfl, Nat.zero_le _, Below.refl _ _⟩
 case round =>
  obtain ⟨i, v, rfl, rfl, rfl, hi, hbl⟩ := hrel
  have HB := Lib.hid hbl
  have i0 : (0 : Int) ≤ (i : Int) := by omega
  have wri : wrap64 ((i : Int) + 1) = (i : Int) + 1 := by unfold wrap64; omega
  clear hbl
  obtain ⟨s, hs⟩ : ∃ s : Int, deepL (x.elems.take i) = s := ⟨_, rfl⟩
  rw [hs]
  have HS := Lib.hid hs
  clear hs
  by_cases hlt : i < n
  ·skip
   obtain ⟨p, y, v0, v1, v2, v3, v4, rfl, hy, ⟨c0, c1, c2, c3, c4⟩, rd⟩ := Sl.at5 (Sl.bel HB.out HX.out) (by rw [← HN.out]; exact hlt)
   obtain ⟨k, a, ns, l, f, w2, w3, w4, rfl, he, st, sl, sf⟩ := Rd.is_s rd rfl
   simp only [Array.mk.injEq, List.cons.injEq, and_true] at he
   obtain ⟨rfl, rfl, rfl, rfl, rfl⟩ := he
   obtain ⟨A5, d5, rfl⟩ := sl_slice sl
   obtain ⟨A6, m, d6, rfl, hm⟩ := sl_slice2 sf
   have QY := HQ.out _ (List.mem_of_getElem? hy)
   have C1 := Lib.hid (QY.1 wr P _ sl)
   have Q2 := Lib.hid QY.2
   have FL := Lib.hid (X.fit_len f (HFE.out _ (List.mem_of_getElem? hy)).1.2.2)
   have LP := Lib.hid (show 0 ≤ l.deep by rw [sl_deep sl]; exact deepL_pos _)
   have HM := Lib.hid hm
   have FL2 := Lib.hid (show m ≤ 100000 by rw [hm]; exact FL.out)
   have SF := Lib.hid (sl_deep sf)
   have HY := Lib.hid hy
   have HLT := Lib.hid hlt
   have hl1 : (i : Int) < (n : Int) := by omega
   clear hi hy rd QY sl sf hlt hm FL st
   have mx := run_mx s l.deep
   go_wp2_with (first | (go_at_call 37; refine C1.out.mono ?_; rintro e w1 ⟨rfl, b1⟩; have HB1 := Lib.hid (HB.out.trans (b1.mono HB.out.size)); clear b1))
   clear mx
   go_loopw [3, 5] (fun ua ub wi => ∃ k : Nat, ua = .int .i64 (max (max s l.deep) (deepL (f.elems.take k))) ∧ ub = .int .i64 (k : Int) ∧ k ≤ m ∧ Below w.heap.size w wi) (fun _ ub _ => m - (intOf ub).toNat)
   case atStart => exact ⟨0, by rw [List.take_zero, deepL_nil, Int.max_eq_left (show 0 ≤ max s l.deep by have := LP.out; omega)], rfl, Nat.zero_le _, HB1.out⟩
   case round =>
    obtain ⟨k2, rfl, rfl, hk, hbl⟩ := hrel
    have HBI := Lib.hid hbl
    clear hbl
    obtain ⟨p2, y2, v0x, v1x, v2x, v3x, v4x, ep, hy2, ⟨c0, c1, c2, c3, c4⟩, rd⟩ := Sl.at5 (Sl.bel HBI.out HX.out) (by rw [← HN.out]; exact HLT.out)
    obtain rfl := Option.some.inj ep
    obtain rfl := Option.some.inj (HY.out.symm.trans hy2)
    obtain ⟨q2, q5, q6, he, st, sl, sf⟩ := rd
    simp only [Array.mk.injEq, List.cons.injEq, and_true] at he
    obtain ⟨rfl, rfl, rfl, rfl, rfl⟩ := he
    obtain ⟨A7, m7, d7, rfl, hm7⟩ := sl_slice2 sf
    obtain rfl := hm7.trans HM.out.symm
    obtain ⟨A8, m8, d8, rfl, hm8⟩ := sl_slice2 sl
    clear hm7 hm8
    have k0 : (0 : Int) ≤ (k2 : Int) := by omega
    have fl := FL2.out
    have wk : wrap64 ((k2 : Int) + 1) = (k2 : Int) + 1 := by unfold wrap64; omega
    have m1 : (m7 : Int) ≤ 100000 := by omega
    clear fl
    obtain ⟨t, ht⟩ : ∃ t : Int, max (max s l.deep) (deepL (f.elems.take k2)) = t := ⟨_, rfl⟩
    rw [ht]
    have HT := Lib.hid ht
    clear ht
    by_cases hlk : k2 < m7
    ·obtain ⟨q, z, u0, rfl, hz, t0, rz⟩ := Sl.at1 sf (by rw [← HM.out]; exact hlk)
     rw [Nat.mul_one] at t0
     obtain ⟨b, x0, rfl, e2, sb⟩ := Rd.is_b rz rfl
     simp only [Array.mk.injEq, List.cons.injEq, and_true] at e2
     subst e2
     obtain ⟨A9, d9, rfl⟩ := sl_slice sb
     have C2 := Lib.hid (Q2.out _ (List.mem_of_getElem? hz) b rfl wr P _ sb)
     have HZ2 := Lib.hid (deepL_take f.elems k2 _ hz)
     have hl2 : (k2 : Int) < (m7 : Int) := by omega
     have HLK := Lib.hid hlk
     clear hz rz sb sf sl hk hlk hy2 ep st
     obtain ⟨g2, hg2⟩ : ∃ g2 : Int, (if b.len = 0 then 0 else wrap64 (1 + b.deep)) = g2 := ⟨_, rfl⟩
     rw [hg2] at C2
     have mx := run_mx t g2
     have HG2 := Lib.hid hg2
     clear hg2
     go_wp2_with (first | (go_at_call 18; refine C2.out.mono ?_; rintro e w2 ⟨rfl, b2⟩; have HB2 := Lib.hid (HBI.out.trans (b2.mono HBI.out.size)); clear b2))
     refine ⟨⟨k2 + 1, ?_, ?_, ?_, ?_⟩, ?_⟩
     ·rw [HZ2.out, ← HT.out]
      have hd : (X.blk b).deep = g2 := HG2.out
      rw [hd]
      exact congrArg (Value.int .i64) (by omega)
     ·first | rfl | exact congrArg (Value.int .i64) (wk.trans (by omega))
     ·exact HLK.out
     ·exact HB2.out
     ·have := HLK.out; simp only [intOf]; omega
    ·have hl2 : ¬ (k2 : Int) < (m7 : Int) := by omega
     have hk3 : k2 = m7 := by omega
     have HTT := Lib.hid (show f.elems.take k2 = f.elems from List.take_of_length_le (by rw [elems_len, ← HM.out]; omega))
     have HTX := Lib.hid (deepL_take x.elems i _ HY.out)
     clear hlk hk hk3 sf sl hy2 st
     go_wp2_with fail
     refine ⟨⟨i + 1, _, ?_, ?_, rfl, ?_, HBI.out⟩, ?_⟩
     ·rw [HTX.out, HS.out, ← HT.out, HTT.out]
      have e1 : (X.s k a ns l f).deep = max l.deep f.deep := rfl
      rw [e1, SF.out]
      exact congrArg (Value.int .i64) (by omega)
     ·rfl
     ·have := HLT.out; omega
     ·have := HLT.out; simp only [intOf]; omega
  ·have hl1 : ¬ (i : Int) < (n : Int) := by omega
   have HT := Lib.hid (show x.elems.take i = x.elems from List.take_of_length_le (by rw [elems_len, ← HN.out]; omega))
   have HI := Lib.hid (show i = n by omega)
   clear hlt hi
   go_wp2_with fail
   go_ret
   refine ⟨?_, HB.out⟩
   show Ending.returned (.int .i64 (wrap64 (s + 1))) = .returned (.int .i64 g)
   rw [HZ.out, HEX.out, ← HS.out, HT.out, Int.add_comm]
theorem rdep_row_e {l : X} (hl : l.fit 100000) (H : ∀ y ∈ l.elems, DepQ y) : RDepE l := fun w P v h => by
 obtain ⟨A, c, rfl⟩ := sl_slice h
 exact rdep_e w P l A l.len c h hl H
theorem rdep_row_s {l : X} (hl : l.fit 100000) (H : ∀ y ∈ l.elems, DepQ y) : RDepS l := fun w P v h => by
 obtain ⟨A, c, rfl⟩ := sl_slice h
 exact rdep_s w P l A l.len c h hl H
theorem rdep_all (x : X) : DepQ x ∧ ∀ y ∈ x.elems, DepQ y :=
 X.all (S := DepQ) (fun _ _ _ _ _ _ f hl hf fit => ⟨rdep_row_e fit.1.1 hl, fun y hy ps b e => by subst e; exact hf _ hy (fit_elems f fit.1.2 _ hy)⟩)
  (fun _ _ hb fit => rdep_row_s fit.1.2 hb) (fun _ _ _ _ b hl hb fit => ⟨rdep_row_e fit.1.2.1 hl, fun y hy m e => by subst e; exact hb _ hy (fit_elems b fit.1.2.2 _ hy)⟩)
  (fun _ hl fit => rdep_row_s fit hl) (fun _ => trivial) (fun _ _ _ => trivial) x
theorem rdep_any {l : X} (hl : l.fit 100000) : RDepS l := rdep_row_s hl (rdep_all l).2
end Go.Proofs.YtbcjpnmakcmndaaGreatDoor
