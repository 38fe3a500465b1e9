/- Package value: Len, Name, isPure. -/
import Derived.Test.YtgokjdlemfaagaaVlM
namespace Go.Proofs.Ytgokjdlemfaagaa
open Go.RowKit
set_option linter.unusedVariables false
theorem wadd (a b : Nat) (h : a + b < 4611686018427387904) : wrap64 ((a : Int) + (b : Int)) = ((a + b : Nat) : Int) := by unfold wrap64; omega
theorem kind_cases (k : Int) : k = 1 ∨ k = 2 ∨ k = 3 ∨ k = 4 ∨ k = 5 ∨ ((k == 1) = false ∧ (k == 2) = false ∧ (k == 3) = false ∧ (k == 4) = false ∧ (k == 5) = false) := by
  by_cases h1 : k = 1
  · exact .inl h1
  by_cases h2 : k = 2
  · exact .inr (.inl h2)
  by_cases h3 : k = 3
  · exact .inr (.inr (.inl h3))
  by_cases h4 : k = 4
  · exact .inr (.inr (.inr (.inl h4)))
  by_cases h5 : k = 5
  · exact .inr (.inr (.inr (.inr (.inl h5))))
  · exact .inr (.inr (.inr (.inr (.inr ⟨beq_eq_false_iff_ne.2 h1, beq_eq_false_iff_ne.2 h2, beq_eq_false_iff_ne.2 h3, beq_eq_false_iff_ne.2 h4, beq_eq_false_iff_ne.2 h5⟩))))
set_option maxHeartbeats 1000000 in
theorem len_agg (w : World) (kd : Int) (s : ByteArray) (A2 A3 A4 A5 : Option Addr) (n2 c2 n3 c3 n4 c4 n5 c5 : Nat) :
    Calls Try.prog 7 #[.agg #[.int .i64 kd, .string s, .slice A2 n2 c2, .slice A3 n3 c3, .slice A4 n4 c4, .slice A5 n5 c5]] w fun e w' =>
      e = .returned (.int .i64 ((if kd = 1 then s.size else if kd = 2 then n2 else if kd = 3 then n3 else if kd = 4 then n4 else if kd = 5 then n5 else 0 : Nat) : Int)) ∧ Below w.heap.size w w' := by
  have al : ∀ o, Below w.heap.size w (w.alloc o) := fun o => (Below.refl _ w).alloc (Nat.le_refl _) o
  rcases kind_cases kd with rfl | rfl | rfl | rfl | rfl | ⟨h1, h2, h3, h4, h5⟩
  · go_enter Try.func7, Try.ntmps7
    go_wp2_with fail
    go_ret
    exact ⟨rfl, al _⟩
  · go_enter Try.func7, Try.ntmps7
    go_wp2_with fail
    go_ret
    exact ⟨rfl, al _⟩
  · go_enter Try.func7, Try.ntmps7
    go_wp2_with fail
    go_ret
    exact ⟨rfl, al _⟩
  · go_enter Try.func7, Try.ntmps7
    go_wp2_with fail
    go_ret
    exact ⟨rfl, al _⟩
  · go_enter Try.func7, Try.ntmps7
    go_wp2_with fail
    go_ret
    exact ⟨rfl, al _⟩
  · have e : (if kd = 1 then s.size else if kd = 2 then n2 else if kd = 3 then n3 else if kd = 4 then n4 else if kd = 5 then n5 else 0 : Nat) = 0 := by
      rw [if_neg (ne_of_beq_false h1), if_neg (ne_of_beq_false h2), if_neg (ne_of_beq_false h3), if_neg (ne_of_beq_false h4), if_neg (ne_of_beq_false h5)]
    rw [e]
    clear e
    go_enter Try.func7, Try.ntmps7
    go_wp2_with fail
    go_ret
    exact ⟨rfl, al _⟩
/-- Len: for whatever value. -/
theorem len_any (w : World) (B : Nat) (v : Value) (x : Vl) (h : Vr w B v x) :
    Calls Try.prog 7 #[v] w fun e w' => e = .returned (.int .i64 (x.len : Int)) ∧ Below w.heap.size w w' := by
  obtain ⟨A2, c2, A3, c3, A4, c4, A5, c5, rfl, -⟩ := h.shows
  exact len_agg w x.kind x.text A2 A3 A4 A5 _ c2 _ c3 _ c4 _ c5
theorem name_hash (w : World) : Calls Try.prog 12 #[.int .i64 3] w fun e w' => e = .returned (.string ⟨#[104, 97, 115, 104]⟩) ∧ w = w' := by
  go_enter Try.func12, Try.ntmps12
  go_wp2_with fail
  go_ret
  exact ⟨rfl, rfl⟩
set_option maxHeartbeats 1000000 in
theorem pure_agg (w : World) (kd : Int) (s : ByteArray) (A2 A3 A4 A5 : Option Addr) (n2 c2 n3 c3 n4 c4 n5 c5 L : Nat) (hL : (if kd = 1 then s.size else if kd = 2 then n2 else if kd = 3 then n3 else if kd = 4 then n4 else if kd = 5 then n5 else 0) = L) (hs : s.size + n2 + n3 + n4 + n5 < 4611686018427387904) :
    Calls Try.prog 13 #[.agg #[.int .i64 kd, .string s, .slice A2 n2 c2, .slice A3 n3 c3, .slice A4 n4 c4, .slice A5 n5 c5]] w fun e w' =>
      e = .returned (.bool (((s.size + n2 + n3 + n4 + n5 : Nat) : Int) == ((L : Nat) : Int))) ∧ Below w.heap.size w w' := by
  have al : ∀ o, Below w.heap.size w (w.alloc o) := fun o => (Below.refl _ w).alloc (Nat.le_refl _) o
  have LN := fun w => len_agg w kd s A2 A3 A4 A5 n2 c2 n3 c3 n4 c4 n5 c5
  rw [hL] at LN
  obtain ⟨z, hz⟩ : ∃ z : Nat, s.size = z := ⟨_, rfl⟩
  obtain ⟨T, hT⟩ : ∃ T : Nat, s.size + n2 + n3 + n4 + n5 = T := ⟨_, rfl⟩
  have w1 : wrap64 ((s.size : Int) + (n2 : Int)) = ((s.size + n2 : Nat) : Int) := wadd _ _ (by omega)
  have w2 : wrap64 (((s.size + n2 : Nat) : Int) + (n3 : Int)) = ((s.size + n2 + n3 : Nat) : Int) := wadd _ _ (by clear w1; omega)
  have w3 : wrap64 (((s.size + n2 + n3 : Nat) : Int) + (n4 : Int)) = ((s.size + n2 + n3 + n4 : Nat) : Int) := wadd _ _ (by clear w1 w2; omega)
  have w4 : wrap64 (((s.size + n2 + n3 + n4 : Nat) : Int) + (n5 : Int)) = ((T : Nat) : Int) := by rw [← hT]; exact wadd _ _ (by clear w1 w2 w3; omega)
  obtain ⟨a, ha⟩ : ∃ a : Int, ((s.size + n2 : Nat) : Int) = a := ⟨_, rfl⟩
  obtain ⟨b, hb⟩ : ∃ b : Int, ((s.size + n2 + n3 : Nat) : Int) = b := ⟨_, rfl⟩
  obtain ⟨c, hc⟩ : ∃ c : Int, ((s.size + n2 + n3 + n4 : Nat) : Int) = c := ⟨_, rfl⟩
  rw [ha] at w1 w2
  rw [hb] at w2 w3
  rw [hc] at w3 w4
  rw [hT]
  clear ha hb hc hT hL hs hz
  go_enter Try.func13, Try.ntmps13
  go_wp2_with (go_at_call 7; refine (LN _).mono ?_; rintro e w' ⟨rfl, hb⟩)
  go_ret
  exact ⟨rfl, below_then (al _) hb⟩
theorem pure_any (w : World) (B : Nat) (v : Value) (x : Vl) (h : Vr w B v x) (hs : x.all < 4611686018427387904) :
    Calls Try.prog 13 #[v] w fun e w' => e = .returned (.bool (decide (x.all = x.len))) ∧ Below w.heap.size w w' := by
  obtain ⟨A2, c2, A3, c3, A4, c4, A5, c5, rfl, -⟩ := h.shows
  refine (pure_agg w x.kind x.text A2 A3 A4 A5 _ c2 _ c3 _ c4 _ c5 x.len rfl hs).mono fun e w' ⟨he, hb⟩ => ⟨?_, hb⟩
  rw [he]
  congr 2
  by_cases k : x.all = x.len
  · rw [decide_eq_true k, beq_iff_eq]
    exact congrArg Int.ofNat k
  · rw [decide_eq_false k, beq_eq_false_iff_ne]
    exact fun q => k (Int.ofNat.inj q)
end Go.Proofs.Ytgokjdlemfaagaa
