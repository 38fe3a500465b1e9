/- The document's own answer: names; LexNames. -/
import Derived.Test.YtikbgkndfmcfhaaDoorLxA1
import Derived.Test.YtikbgkndfmcfhaaDoorLxTold
namespace Go.Proofs.YtikbgkndfmcfhaaDoor
open Go.RowKit
set_option linter.unusedVariables false
theorem rn_all (s : ByteArray) : (rn s 0 = s.size) ↔ (s.data.toList.all fun c => LxM.wd (LxM.i c)) = true := by
  have hl : s.data.toList.length = s.size := by simp
  unfold rn
  rw [List.drop_zero, Nat.zero_add, ← hl]
  generalize s.data.toList = l
  induction l with
  | nil => simp
  | cons c r ih =>
    rw [List.takeWhile_cons, List.all_cons]
    cases hw : LxM.wd (LxM.i c)
    · rw [if_neg (by show ¬ LxM.wd (LxM.i c) = true; rw [hw]; decide)]; simp
    · rw [if_pos (show LxM.wdb c = true from hw)]; simpa using ih
set_option maxHeartbeats 2000000 in
theorem rname_any (s : ByteArray) (w : World) (hs : s.size ≤ 1048576) :
    Calls Tryd.prog 15 #[.string s] w fun e w' => e = .returned (.bool (LxM.isName s.data.toList)) ∧ Below w.heap.size w w' := by
  have z0 : s.data.toList.length = s.size := by simp
  have RW := fun w => rword_any s w
  have RU := fun w => run_any s 0 w (Nat.zero_le _) hs
  have RA := rn_all s
  unfold LxM.isName
  rw [z0]
  by_cases h1 : 1 ≤ s.size
  · have i1 : (1 : Int) ≤ (s.size : Int) := by omega
    have d1 : decide (1 ≤ s.size) = true := decide_eq_true h1
    rw [d1, Bool.true_and]
    have i0 : (0 : Int) < (s.size : Int) := by omega
    have hp : 0 < s.size := h1
    have eh : LxM.hd s.data.toList = LxM.i s[0] := by
      have := drop_cons s 0 hp
      rw [List.drop_zero] at this
      rw [this]; rfl
    have LE := fun w => rlet_any s[0] w
    rw [eh]
    by_cases h2 : s.size ≤ 32
    · have i2 : (s.size : Int) ≤ 32 := by omega
      have d2 : decide (s.size ≤ 32) = true := decide_eq_true h2
      rw [d2, Bool.true_and]
      generalize LxM.lt (LxM.i s[0]) = lv at *
      generalize (s.data.toList.all fun c => LxM.wd (LxM.i c)) = av at *
      generalize LxM.isWord s.data.toList = wv at *
      generalize rn s 0 = r at *
      clear eh d1 d2 h1 h2
      cases lv with
      | false =>
        go_enter Tryd.func15, Tryd.ntmps15
        go_wp2_with (go_at_call 19; refine (LE _).mono ?_; rintro e w' ⟨rfl, rfl⟩)
        go_ret
        exact ⟨rfl, Below.refl _ _⟩
      | true =>
        cases av with
        | false =>
          have ne : ((r : Int) == (s.size : Int)) = false := by
            rw [beq_eq_false_iff_ne]; intro e
            have := RA.1 (by omega)
            cases this
          clear RA
          go_enter Tryd.func15, Tryd.ntmps15
          go_wp2_with (first
            | (go_at_call 19; refine (LE _).mono ?_; rintro e w' ⟨rfl, rfl⟩)
            | (go_at_call 18; refine (RU _).mono ?_; rintro e w' ⟨rfl, rfl⟩))
          go_ret
          exact ⟨rfl, Below.refl _ _⟩
        | true =>
          obtain rfl := RA.2 rfl
          clear RA
          cases wv
          all_goals go_enter Tryd.func15, Tryd.ntmps15
          all_goals go_wp2_with (first
            | (go_at_call 19; refine (LE _).mono ?_; rintro e w' ⟨rfl, rfl⟩)
            | (go_at_call 18; refine (RU _).mono ?_; rintro e w' ⟨rfl, rfl⟩)
            | (go_at_call 13; refine (RW _).mono ?_; rintro e w' ⟨rfl, hb⟩))
          all_goals go_ret
          all_goals exact ⟨rfl, hb⟩
    · have i2 : (32 : Int) < (s.size : Int) := by omega
      have d2 : decide (s.size ≤ 32) = false := decide_eq_false h2
      rw [d2]
      go_enter Tryd.func15, Tryd.ntmps15
      go_wp2_with fail
      go_ret
      exact ⟨rfl, Below.refl _ _⟩
  · have d1 : decide (1 ≤ s.size) = false := decide_eq_false h1
    have i1 : (s.size : Int) < 1 := by omega
    rw [d1]
    go_enter Tryd.func15, Tryd.ntmps15
    go_wp2_with fail
    go_ret
    exact ⟨rfl, Below.refl _ _⟩
set_option maxHeartbeats 2000000 in
theorem names_walk (W : World) (er : Er W) (s : ByteArray) :
    Calls Tryd.prog 4 #[.string s] W fun e W' => e = .returned (.bool true) ∧ Below W.heap.size W W' := by
  have TO := Lib.hid (told_any W er)
  by_cases hs : s.size ≤ 100
  · have i1 : (s.size : Int) ≤ 100 := by omega
    have i2 : ¬ 100 < s.size := by omega
    have d1 : decide (100 < s.size) = false := decide_eq_false i2
    have WA := fun w => word_any s w
    have RW := fun w => rword_any s w
    have NA := fun w => name_any s w (by omega)
    have RN := fun w => rname_any s w (by omega)
    generalize LxM.isWord s.data.toList = wv at *
    generalize LxM.isName s.data.toList = nv at *
    clear er
    cases wv <;> cases nv
    all_goals go_enter Tryd.func4, Tryd.ntmps4
    all_goals go_wp2_with (first
      | (go_at_call 8; refine TO.out.mono ?_; rintro e w1 ⟨rfl, b1⟩; have B1 := Lib.hid b1; clear b1)
      | (go_at_call 12; refine (WA _).mono ?_; rintro e w' ⟨rfl, rfl⟩)
      | (go_at_call 13; refine (RW _).mono ?_; rintro e w2 ⟨rfl, b2⟩; have B2 : Hid (Below W.heap.size W w2) := Lib.hid (B1.out.trans (b2.mono B1.out.size)); clear b2)
      | (go_at_call 14; refine (NA _).mono ?_; rintro e w' ⟨rfl, rfl⟩)
      | (go_at_call 15; refine (RN _).mono ?_; rintro e w3 ⟨rfl, b3⟩; have B3 : Hid (Below W.heap.size W w3) := Lib.hid (B2.out.trans (b3.mono B2.out.size)); clear b3))
    all_goals go_ret
    all_goals exact ⟨rfl, B3.out⟩
  · have i1 : (100 : Int) < (s.size : Int) := by omega
    have d1 : decide (100 < s.size) = true := decide_eq_true (by omega)
    clear er
    go_enter Tryd.func4, Tryd.ntmps4
    go_wp2_with (go_at_call 8; refine TO.out.mono ?_; rintro e w1 ⟨rfl, b1⟩)
    go_ret
    exact ⟨rfl, b1⟩
end Go.Proofs.YtikbgkndfmcfhaaDoor
