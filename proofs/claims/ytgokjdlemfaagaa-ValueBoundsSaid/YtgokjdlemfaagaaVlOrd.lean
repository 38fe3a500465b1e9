/- Package value: are scores in order, names unlike, places points? -/
import Derived.Test.YtgokjdlemfaagaaVlCmp
import Derived.Test.YtgokjdlemfaagaaVlTx
import Derived.Maps.OwnSet
import Derived.Carry
namespace Go.Proofs.Ytgokjdlemfaagaa
open Go.RowKit
set_option linter.unusedVariables false
theorem sorted_iff : ∀ l : List (ByteArray × Int), Vl.sorted l = true ↔ ∀ m (h : m + 1 < l.length), Vl.less l[m + 1] l[m] = false
  | [] => by simp [Vl.sorted]
  | [a] => by simp [Vl.sorted]
  | a :: b :: r => by
    have ih := sorted_iff (b :: r)
    simp only [Vl.sorted, Bool.and_eq_true, Bool.not_eq_true']
    rw [ih]
    constructor
    · rintro ⟨h1, h2⟩ m hm
      cases m with
      | zero => exact h1
      | succ m => exact h2 m (by simpa using hm)
    · intro h
      exact ⟨h 0 (by simp), fun m hm => h (m + 1) (by simpa using hm)⟩
set_option maxRecDepth 20000 in
set_option maxHeartbeats 2000000 in
/-- slices.IsSortedFunc over scores by compareScores. -/
theorem sorted_any (w : World) (B n cap : Nat) (A : Option Addr) (l : List (ByteArray × Int)) (hn : l.length = n) (h62 : n ≤ 1048576) (hc : Cells w B A (scells l)) (hB : B ≤ w.heap.size) :
    Calls Try.prog 26 #[.slice A n cap, .func (.func 27) #[] #[]] w fun e w' => e = .returned (.bool (Vl.sorted l)) ∧ Below w.heap.size w w' := by
  have HC := Lib.hid hc
  have HN := Lib.hid hn
  have HBB := Lib.hid hB
  have n9 : (n : Int) ≤ 1048576 := by omega
  have n0 : (0 : Int) ≤ (n : Int) := by omega
  have w1 : wrap64 ((n : Int) - 1) = (n : Int) - 1 := by unfold wrap64; omega
  clear hc hn hB h62
  go_enter Try.func26, Try.ntmps26
  go_wp2_with fail
  go_loopw [5] (fun i wr => ∃ j : Int, -1 ≤ j ∧ j < n ∧ i = .int .i64 j ∧ (∀ m (h : m + 1 < l.length), j ≤ (m : Int) → Vl.less l[m + 1] l[m] = false) ∧ Below w.heap.size w wr) (fun i _ => (intOf i + 1).toNat)
  case atStart => exact ⟨(n : Int) - 1, by omega, by omega, rfl, fun m h q => by have := HN.out; omega, Below.refl _ _⟩
  case round =>
    obtain ⟨j, j0, j1, rfl, hq, hb⟩ := hrel
    have HQ := Lib.hid hq
    have HB := Lib.hid hb
    clear hq hb
    by_cases hj : 0 < j
    · obtain ⟨q, rfl⟩ : ∃ q : Nat, j = (q : Int) := ⟨j.toNat, by omega⟩
      obtain ⟨m, hm⟩ : ∃ m : Nat, q = m + 1 := ⟨q - 1, by omega⟩
      have hx : q < l.length := by rw [HN.out]; omega
      have hx0 : m < l.length := by omega
      obtain ⟨p, rfl, hp, a1, a2⟩ := (HC.out.below (HB.out.mono HBB.out)).at2 q hx
      obtain ⟨p', e, hp', b1, b2⟩ := (HC.out.below (HB.out.mono HBB.out)).at2 m hx0
      cases e
      obtain ⟨x, hxe⟩ : ∃ x, l[q] = x := ⟨_, rfl⟩
      obtain ⟨y, hye⟩ : ∃ y, l[m] = y := ⟨_, rfl⟩
      have CE := fun w => cmpE_any w x.1 y.1 x.2 y.2
      have ls := cmpE_less x y
      rw [hxe] at a1 a2
      rw [hye] at b1 b2
      have HX := Lib.hid hxe
      have HY := Lib.hid hye
      clear hxe hye hp'
      obtain ⟨xs, xi⟩ := x
      obtain ⟨ys, yi⟩ := y
      simp only at a1 a2 b1 b2 CE ls
      obtain ⟨c, hc⟩ : ∃ c, cmpE (xs, xi) (ys, yi) = c := ⟨_, rfl⟩
      rw [hc] at CE ls
      obtain ⟨r, hr⟩ : ∃ r, Vl.less (xs, xi) (ys, yi) = r := ⟨_, rfl⟩
      rw [hr] at ls
      have wm : IntKind.i64.wrap ((q : Int) - 1) = (m : Int) := by rw [IntKind.wrap_i64]; omega
      have m0 : (0 : Int) ≤ (m : Int) := by omega
      have m1 : (m : Int) < (n : Int) := by omega
      have q0 : (0 : Int) ≤ (q : Int) := by omega
      have HM := Lib.hid hm
      have HR := Lib.hid hr
      obtain ⟨S, hS⟩ : ∃ S : World → Prop, S = fun W => W.cell? (p.add (q * 2)) = some (.string xs) ∧ W.cell? ⟨(p.add (q * 2)).block, (p.add (q * 2)).off + 1, none⟩ = some (.int .i64 xi) ∧ W.cell? (p.add (m * 2)) = some (.string ys) ∧ W.cell? ⟨(p.add (m * 2)).block, (p.add (m * 2)).off + 1, none⟩ = some (.int .i64 yi) ∧ Below w.heap.size w W := ⟨_, rfl⟩
      have s0 : S wr.drew := by rw [hS]; exact ⟨a1, a2, b1, b2, HB.out.drew⟩
      have kp : ∀ W W', S W → Below W.heap.size W W' → S W' := fun W W' h b => by
        rw [hS] at h ⊢
        obtain ⟨h1, h2, h3, h4, h5⟩ := h
        exact ⟨cell_in b h1, cell_in b h2, cell_in b h3, cell_in b h4, below_then h5 b⟩
      rw [hS] at s0 kp
      have S0 := Lib.hid s0
      have KP := Lib.hid kp
      clear hc hr hm s0 kp hS S j0
      go_wp2_with fail
      go_region_held3 (fun W => W.cell? (p.add (q * 2)) = some (.string xs) ∧ W.cell? ⟨(p.add (q * 2)).block, (p.add (q * 2)).off + 1, none⟩ = some (.int .i64 xi) ∧ W.cell? (p.add (m * 2)) = some (.string ys) ∧ W.cell? ⟨(p.add (m * 2)).block, (p.add (m * 2)).off + 1, none⟩ = some (.int .i64 yi) ∧ Below w.heap.size w W) (first | assumption | exact S0.out | exact KP.out _ _ (by assumption) (by assumption)) (first
        | (go_at_call 27; refine (CE _).mono ?_; rintro e w' ⟨rfl, hbc⟩))
      rename_i hS2
      have HB2 := Lib.hid hS2.2.2.2.2
      clear hS2 a1 a2 b1 b2
      cases r
      · go_wp2_with fail
        go_roundw
        case rel =>
          refine ⟨(m : Int), by omega, by omega, by have := HM.out; go_num, fun k hk qk => ?_, HB2.out⟩
          by_cases e : k = m
          · subst e
            have h1 := HX.out
            have h2 := HY.out
            have h3 := HM.out
            subst h3
            rw [h1, h2]
            exact HR.out
          · exact HQ.out k hk (by have := HM.out; omega)
        case measure => simp [intOf]; have := HM.out; omega
      · go_wp2_with fail
        go_ret
        refine ⟨?_, HB2.out⟩
        have : Vl.sorted l = false := by
          refine Bool.eq_false_iff.2 fun k => ?_
          have h1 := HX.out
          have h2 := HY.out
          have h3 := HM.out
          subst h3
          have k2 := (sorted_iff l).1 k m hx
          rw [h1, h2, HR.out] at k2
          cases k2
        rw [this]
        rfl
    · have hj' : j ≤ 0 := by omega
      go_wp2_with fail
      go_ret
      refine ⟨?_, HB.out⟩
      rw [(sorted_iff l).2 fun m h => HQ.out m h (by omega)]
      rfl
end Go.Proofs.Ytgokjdlemfaagaa
