/- The document's own answer: texts held against texts, read as rows of texts. -/
import Derived.Test.YteakhlnnepjhpaaTcRx
namespace Go.Proofs.Yteakhlnnepjhpaa
open Go.RowKit PrM
set_option linter.unusedVariables false
set_option linter.unusedSimpArgs false
def SR (b : Bool) (w : World) (e : Ending) (w' : World) : Prop := e = .returned (.bool b) ∧ Below w.heap.size w w'
theorem tl_eq (a b : ByteArray) : (a.toList = b.toList) ↔ a = b := by
 rw [Go.ByteArray.toList_eq, Go.ByteArray.toList_eq]
 constructor
 ·intro h
  cases a; cases b
  simp at h
  subst h
  rfl
 ·intro h
  rw [h]
theorem Strs.at {w : World} {P : Nat → Prop} {l : List ByteArray} {A : Option Addr} {n c i : Nat} (h : Strs w P (.slice A n c) l) (hi : i < l.length) : ∃ (p : Addr), A = some p ∧ w.cell? (p.add i) = some (.string l[i]) := by
 obtain ⟨A', c', e, -, -, hr⟩ := h
 injection e with e1 e2 e3
 subst e1
 obtain ⟨p, ep, -, -, hc⟩ := hr i hi
 exact ⟨p, ep, hc⟩
theorem strs_slice {w : World} {P : Nat → Prop} {v : Value} {l : List ByteArray} (h : Strs w P v l) : ∃ A c, v = .slice A l.length c := by
 obtain ⟨A, c, e, -⟩ := h
 exact ⟨A, c, e⟩
set_option maxRecDepth 20000 in
set_option maxHeartbeats 4000000 in
theorem rtexts (w : World) (P Q : Nat → Prop) (l m : List ByteArray) (u v : Value) (h : Strs w P u l) (k : Strs w Q v m) (hb : l.length ≤ 1000000000000) : Calls Try.prog 12 #[u, v] w (SR (decide (l = m)) w) := by
 obtain ⟨A, c, rfl⟩ := strs_slice h
 obtain ⟨B, d, rfl⟩ := strs_slice k
 obtain ⟨n, hn⟩ : ∃ n, l.length = n := ⟨_, rfl⟩
 obtain ⟨q, hq⟩ : ∃ q, m.length = q := ⟨_, rfl⟩
 rw [hn] at h hb ⊢
 rw [hq] at k ⊢
 have HX := Lib.hid h
 have HY := Lib.hid k
 have HN := Lib.hid hn
 have HM := Lib.hid hq
 have n0 : (0 : Int) ≤ (n : Int) := by omega
 have n1 : (n : Int) ≤ 1000000000000 := by omega
 clear h k hn hq hb
 by_cases hnm : n = q
 ·subst hnm
  go_enter Try.func12, Try.ntmps12
  go_wp2_with fail
  go_loopw [5] (fun u13 wr => ∃ (i : Nat), u13 = .int .i64 (i : Int) ∧ i ≤ n ∧ l.take i = m.take i ∧ Below w.heap.size w wr) (fun u13 _ => (n : Int).toNat - (intOf u13).toNat)
  case atStart => exact ⟨0, rfl, Nat.zero_le _, by rw [List.take_zero, List.take_zero], Below.refl _ _⟩
  case round =>
   obtain ⟨i, rfl, hi, hs, hbl⟩ := hrel
   have HB := Lib.hid hbl
   have HS := Lib.hid hs
   have i0 : (0 : Int) ≤ (i : Int) := by omega
   have wi : wrap64 ((i : Int) + 1) = (i : Int) + 1 := by unfold wrap64; omega
   clear hbl hs
   by_cases hlt : i < n
   ·have hl : i < l.length := by rw [HN.out]; exact hlt
    have hm : i < m.length := by rw [HM.out]; exact hlt
    obtain ⟨p, rfl, c0⟩ := Strs.at (Strs.bel HB.out HX.out) hl
    obtain ⟨r, rfl, d0⟩ := Strs.at (Strs.bel HB.out HY.out) hm
    obtain ⟨x, hx⟩ : ∃ x, l[i] = x := ⟨_, rfl⟩
    obtain ⟨y, hy⟩ : ∃ y, m[i] = y := ⟨_, rfl⟩
    rw [hx] at c0
    rw [hy] at d0
    have HXE := Lib.hid (show l[i]? = some x by rw [List.getElem?_eq_getElem hl, hx])
    have HYE := Lib.hid (show m[i]? = some y by rw [List.getElem?_eq_getElem hm, hy])
    have hl1 : (i : Int) < (n : Int) := by omega
    have HLT := Lib.hid hlt
    clear hi hlt hx hy hl hm
    by_cases hxy : x = y
    ·have e1 : (x.toList == y.toList) = true := by rw [hxy]; simp
     have HE := Lib.hid hxy
     clear hxy
     go_wp2_with fail
     go_region
     go_wp2_with fail
     refine ⟨⟨i + 1, rfl, (by have := HLT.out; omega), ?_, HB.out.drew⟩, ?_⟩
     ·rw [List.take_add_one, List.take_add_one, HS.out, HXE.out, HYE.out, HE.out]
     ·have := HLT.out
      simp only [intOf]
      omega
    ·have e1 : (x.toList == y.toList) = false := by rw [beq_eq_false_iff_ne]; exact fun e => hxy ((tl_eq x y).1 e)
     have HE := Lib.hid (show l ≠ m from fun e => by
      have h1 := HXE.out
      have h2 := HYE.out
      subst e
      rw [h1] at h2
      exact hxy (Option.some.inj h2))
     clear hxy
     go_wp2_with fail
     go_region
     go_wp2_with fail
     go_ret
     exact ⟨by rw [decide_eq_false HE.out]; rfl, HB.out.drew⟩
   ·have hl1 : ¬ (i : Int) < (n : Int) := by omega
    have e : i = n := by omega
    have HT := Lib.hid (show l = m by
     have := HS.out
     rwa [List.take_of_length_le (by have := HN.out; omega), List.take_of_length_le (by have := HM.out; omega)] at this)
    clear hlt hi e
    go_wp2_with fail
    go_ret
    exact ⟨by rw [decide_eq_true HT.out]; rfl, HB.out⟩
 ·have ne1 : ((n : Int) != (q : Int)) = true := by
   rw [bne_iff_ne]
   omega
  have HT := Lib.hid (show l ≠ m from fun e => hnm (by rw [← HN.out, ← HM.out, e]))
  clear hnm
  go_enter Try.func12, Try.ntmps12
  go_wp2_with fail
  go_ret
  exact ⟨by rw [decide_eq_false HT.out]; rfl, Below.refl _ _⟩
end Go.Proofs.Yteakhlnnepjhpaa
