/- LexTokens: the walk. -/
import Derived.Test.YtikbgkndfmcfhaaDoorLxU6
namespace Go.Proofs.YtikbgkndfmcfhaaDoor
open Go.RowKit
set_option linter.unusedVariables false
/-- The document's own answer: tokens as a list in memory. -/
theorem rlex_list (W : World) (s : ByteArray) (hs : s.size ≤ 2000) :
    Calls Tryd.prog 10 #[.string s] W fun e W' => (∃ tv err p, e = .returned (.tuple #[tv, .int .i64 err, .int .i64 p]) ∧
      match LxM.lex s.data.toList with
      | .ok l => err = 0 ∧ p = 0 ∧ TList W' tv l
      | .bad q => err = 14 ∧ p = (q : Int) ∧ tv = .slice none 0 0) ∧ Below W.heap.size W W' := by
  refine (rlex_any W s hs).mono ?_
  rintro e W' ⟨⟨tv, err, p, rfl, hm⟩, hb⟩
  refine ⟨⟨tv, err, p, rfl, ?_⟩, hb⟩
  cases h : LxM.lex s.data.toList with
  | ok l => rw [h] at hm; exact ⟨hm.1, hm.2.1, hm.2.2.list⟩
  | bad q => rw [h] at hm; exact hm
set_option maxRecDepth 20000 in
set_option maxHeartbeats 4000000 in
theorem tokens_walk (W : World) (er : Er W) (s : ByteArray) :
    Calls Tryd.prog 3 #[.string s] W fun e W' => e = .returned (.bool true) ∧ Below W.heap.size W W' := by
  have TO := Lib.hid (fun W1 (h : Er W1) => told_any W1 h)
  have ER := Lib.hid er
  by_cases hs : s.size ≤ 2000
  · have i1 : (s.size : Int) ≤ 2000 := by omega
    have d1 : decide (2000 < s.size) = false := decide_eq_false (by omega)
    have L1 := Lib.hid (lex_list W s (by omega) er)
    have L2 := Lib.hid (fun W1 => rlex_list W1 s hs)
    have zs : s.data.toList.length = s.size := by simp
    have C1 := Lib.hid (fun a => lex_count (l := s.data.toList) (a := a))
    rw [zs] at C1
    have HS := Lib.hid hs
    obtain ⟨FA, hFA⟩ : ∃ F, LxM.lex s.data.toList = F := ⟨_, rfl⟩
    rw [hFA] at L1 L2
    have HFA := Lib.hid hFA
    clear er hs zs hFA
    cases FA with
    | bad q =>
      dsimp only at L1 L2
      have SA := Lib.hid (fun w => same_any w (.slice none 0 0) (.slice none 0 0) [] ⟨none, 0, rfl, fun _ => rfl, Nat.le_refl _, fun i hi => absurd hi (by simp)⟩ ⟨none, 0, rfl, fun _ => rfl, Nat.le_refl _, fun i hi => absurd hi (by simp)⟩ (by decide))
      go_enter Tryd.func3, Tryd.ntmps3
      go_wp2_with fail
      go_at_call 9
      refine L1.out.mono ?_
      rintro e w1 ⟨⟨tva, ea, pa, rfl, rfl, rfl, rfl⟩, b1⟩
      have B1 := Lib.hid b1
      have E1 := Lib.hid (ER.out.below b1 ER.out.two)
      clear b1
      go_wp2_with fail
      go_at_call 10
      refine (L2.out _).mono ?_
      rintro e w2 ⟨⟨tvb, eb, pb, rfl, rfl, rfl, rfl⟩, b2⟩
      have B2 := Lib.hid (B1.out.trans (b2.mono B1.out.size))
      have E2 := Lib.hid (E1.out.below b2 E1.out.two)
      clear b2
      go_wp2_with (first
        | (go_at_call 8; refine (TO.out _ E2.out).mono ?_; rintro e w3 ⟨rfl, b3⟩; have B3 := Lib.hid (B2.out.trans (b3.mono B2.out.size)); clear b3)
        | (go_at_call 11; refine (SA.out _).mono ?_; rintro e w4 ⟨rfl, b4⟩; have B4 := Lib.hid (B3.out.trans (b4.mono B3.out.size)); clear b4))
      go_ret
      exact ⟨rfl, B4.out⟩
    | ok a =>
      dsimp only at L1 L2
      have ca := C1.out a HFA.out
      have HCA := Lib.hid (show a.length ≤ 100000 by have := HS.out; omega)
      clear ca
      go_enter Tryd.func3, Tryd.ntmps3
      go_wp2_with fail
      go_at_call 9
      refine L1.out.mono ?_
      rintro e w1 ⟨⟨tva, ea, pa, rfl, rfl, rfl, la⟩, b1⟩
      have B1 := Lib.hid b1
      have E1 := Lib.hid (ER.out.below b1 ER.out.two)
      have LA := Lib.hid la
      clear b1 la
      go_wp2_with fail
      go_at_call 10
      refine (L2.out _).mono ?_
      rintro e w2 ⟨⟨tvb, eb, pb, rfl, rfl, rfl, lb⟩, b2⟩
      have B2 := Lib.hid (B1.out.trans (b2.mono B1.out.size))
      have E2 := Lib.hid (E1.out.below b2 E1.out.two)
      have LA2 := Lib.hid (LA.out.keep b2)
      have LB := Lib.hid lb
      clear b2 lb
      go_wp2_with (first
        | (go_at_call 8; refine (TO.out _ E2.out).mono ?_; rintro e w3 ⟨rfl, b3⟩; have B3 := Lib.hid (B2.out.trans (b3.mono B2.out.size)); have LA3 := Lib.hid (LA2.out.keep b3); have LB3 := Lib.hid (LB.out.keep b3); clear b3)
        | (go_at_call 11; refine (same_any _ _ _ a LA3.out LB3.out HCA.out).mono ?_; rintro e w4 ⟨rfl, b4⟩; have B4 := Lib.hid (B3.out.trans (b4.mono B3.out.size)); clear b4))
      go_ret
      exact ⟨rfl, B4.out⟩
  · have i1 : (2000 : Int) < (s.size : Int) := by omega
    have d1 : decide (2000 < s.size) = true := decide_eq_true (by omega)
    clear er hs
    go_enter Tryd.func3, Tryd.ntmps3
    go_wp2_with (go_at_call 8; refine (TO.out _ ER.out).mono ?_; rintro e w3 ⟨rfl, b3⟩)
    go_ret
    exact ⟨rfl, b3⟩
end Go.Proofs.YtikbgkndfmcfhaaDoor
