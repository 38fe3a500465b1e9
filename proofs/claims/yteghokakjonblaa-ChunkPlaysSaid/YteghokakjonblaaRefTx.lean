/- The document's own answer: texts held against texts. -/
import Derived.Test.YteghokakjonblaaOwnTx
namespace Go.Proofs.Yteghokakjonblaa
open Go.RowKit
set_option linter.unusedVariables false
theorem IsTx.keep {w w' : World} {A : Option Addr} {l : List ByteArray} {c : Nat} (h : IsTx w A l c) (b : Below w.heap.size w w') : IsTx w' A l c := ⟨h.1, h.2.1, h.2.2.1, h.2.2.2.later b⟩
theorem IsTx.at_ {w : World} {A : Option Addr} {l : List ByteArray} {c : Nat} (h : IsTx w A l c) (i : Nat) (hi : i < l.length) : ∃ p : Addr, A = some p ∧ w.cell? (p.add i) = some (.string l[i]) := by
  obtain ⟨p, e, _, k⟩ := h.2.2.2 i (by simpa using hi)
  exact ⟨p, e, by rw [k]; simp⟩
theorem isTx_new (w : World) (l : List ByteArray) (t : TypeId) (h : l.length ≤ 1048576) : IsTx (w.alloc (.cells (l.map Value.string).toArray t)) (some ⟨w.heap.size, 0, none⟩) l l.length :=
  ⟨(fun e => nomatch e), Nat.le_refl _, by unfold maxLen; omega, fun i hi => ⟨_, rfl, by show w.heap.size < (w.heap.push _).size; simp, by
    rw [Addr.add_lit, Nat.zero_add, World.cell?_alloc_new, List.getElem?_toArray, List.getElem?_eq_getElem hi]⟩⟩
set_option maxHeartbeats 2000000 in
theorem texts_any (w : World) (A B : Option Addr) (l m : List ByteArray) (ca cb : Nat) (ha : IsTx w A l ca) (hb : IsTx w B m cb) :
    Calls Try.prog 12 #[.slice A l.length ca, .slice B m.length cb] w fun e w' => e = .returned (.bool (decide (l = m))) ∧ Below w.heap.size w w' := by
  obtain ⟨r, er⟩ : ∃ r, r = decide (l = m) := ⟨_, rfl⟩
  rw [← er]
  have ER := Lib.hid er
  clear er
  obtain ⟨x, ex⟩ : ∃ x, x = l.length := ⟨_, rfl⟩
  obtain ⟨y, ey⟩ : ∃ y, y = m.length := ⟨_, rfl⟩
  have xa := ha.2.1
  have ya := hb.2.1
  have xm := ha.2.2.1
  have ym := hb.2.2.1
  unfold maxLen at xm ym
  rw [← ex] at xa ⊢
  rw [← ey] at ya ⊢
  have x0 : (0 : Int) ≤ (x : Int) := by omega
  have x1 : (x : Int) ≤ 9223372036854775807 := by omega
  have y0 : (0 : Int) ≤ (y : Int) := by omega
  have y1 : (y : Int) ≤ 9223372036854775807 := by omega
  by_cases e : x = y
  · have ML : Hid (m.length = x) := by show m.length = x; omega
    have EX := Lib.hid ex
    subst e
    have HA := Lib.hid ha
    have HB := Lib.hid hb
    clear ha hb ex ey
    go_enter Try.func12, Try.ntmps12
    go_wp2_with fail
    go_loopw [5] (fun i wr => ∃ j : Nat, j ≤ x ∧ i = .int .i64 (j : Int) ∧ l.take j = m.take j ∧ Below w.heap.size w wr) (fun i _ => x - (intOf i).toNat)
    case atStart => exact ⟨0, Nat.zero_le _, rfl, rfl, Below.refl _ _⟩
    case round =>
      obtain ⟨j, hj, rfl, he, hbw⟩ := hrel
      have J := Lib.hid (And.intro hj (And.intro he hbw))
      have j0 : (0 : Int) ≤ (j : Int) := by omega
      by_cases lt : j < x
      · have lt' : (j : Int) < (x : Int) := by omega
        have jl : j < l.length := by rw [← EX.out]; exact lt
        have jm : j < m.length := by rw [ML.out]; exact lt
        obtain ⟨⟨pb, po, ps⟩, eA, pc⟩ := (HA.out.keep hbw).at_ j jl
        obtain ⟨⟨qb, qo, qs⟩, eB, qc⟩ := (HB.out.keep hbw).at_ j jm
        obtain ⟨s, es⟩ : ∃ s, s = l[j] := ⟨_, rfl⟩
        obtain ⟨t, et⟩ : ∃ t, t = m[j] := ⟨_, rfl⟩
        rw [← es] at pc
        rw [← et] at qc
        have N1 : Hid (l.take (j + 1) = l.take j ++ [s] ∧ m.take (j + 1) = m.take j ++ [t]) := ⟨by rw [List.take_add_one, List.getElem?_eq_getElem jl, es]; rfl, by rw [List.take_add_one, List.getElem?_eq_getElem jm, et]; rfl⟩
        have N2 : Hid (s ≠ t → l ≠ m) := fun h e => h (by subst e; rw [es, et])
        have LT := Lib.hid lt
        subst eA eB
        clear hj he hbw jl jm es et lt
        cases e : (s.toList == t.toList)
        · have ne : s ≠ t := fun z => by subst z; simp at e
          have RR : Hid (r = false) := by show r = false; rw [ER.out]; exact decide_eq_false (N2.out ne)
          clear ne
          go_wp2_with fail
          go_region
          go_wp2_with fail
          go_ret
          exact ⟨by rw [RR.out]; rfl, J.out.2.2.drew⟩
        · have eq : s = t := by
            have := beq_iff_eq.1 e
            rw [ByteArray.toList_eq, ByteArray.toList_eq] at this
            exact ByteArray.ext (Array.toList_inj.1 this)
          have EQ := Lib.hid eq
          clear eq
          go_wp2_with fail
          go_region
          go_wp2_with fail
          go_roundw
          case rel => exact ⟨j + 1, by have := LT.out; omega, by go_num, by rw [N1.out.1, N1.out.2, J.out.2.1, EQ.out], J.out.2.2.drew⟩
          case measure => have := LT.out; simp [intOf]; omega
      · have ge : (x : Int) ≤ (j : Int) := by omega
        have eq : l = m := by
          have h1 : l.take j = l := List.take_of_length_le (by rw [← EX.out]; omega)
          have h2 : m.take j = m := List.take_of_length_le (by rw [ML.out]; omega)
          rw [← h1, ← h2]; exact he
        have RR : Hid (r = true) := by show r = true; rw [ER.out]; exact decide_eq_true eq
        clear eq he hbw hj lt
        go_wp2_with fail
        go_ret
        exact ⟨by rw [RR.out]; rfl, J.out.2.2⟩
  · have ne : l ≠ m := fun z => by subst z; omega
    have e' : ¬ ((x : Int) = (y : Int)) := by omega
    have RR : Hid (r = false) := by show r = false; rw [ER.out]; exact decide_eq_false ne
    clear ne ha hb ex ey
    go_enter Try.func12, Try.ntmps12
    go_wp2_with fail
    go_ret
    exact ⟨by rw [RR.out]; rfl, Below.refl _ _⟩
end Go.Proofs.Yteghokakjonblaa
