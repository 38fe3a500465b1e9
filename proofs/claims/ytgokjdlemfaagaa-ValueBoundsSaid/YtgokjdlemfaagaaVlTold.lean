/- Package value: Same of two strings; the law's own check 'told'. -/
import Derived.Test.YtgokjdlemfaagaaVlGet
import Derived.Deep.RegionHeld3
namespace Go.Proofs.Ytgokjdlemfaagaa
open Go.RowKit
set_option linter.unusedVariables false
theorem eqnilS (w : World) : Calls Try.prog 21 #[.slice none 0 0, .slice none 0 0] w fun e w' => e = .returned (.bool true) ∧ w = w' := by
  go_enter Try.func21, Try.ntmps21
  go_wp2_with fail
  refine wp_loop_rounds 1 ?_
  rw [rounds_succ]
  go_wp2_with fail
  go_ret
  exact ⟨rfl, rfl⟩
theorem eqnilF (w : World) : Calls Try.prog 22 #[.slice none 0 0, .slice none 0 0] w fun e w' => e = .returned (.bool true) ∧ w = w' := by
  go_enter Try.func22, Try.ntmps22
  go_wp2_with fail
  refine wp_loop_rounds 1 ?_
  rw [rounds_succ]
  go_wp2_with fail
  go_ret
  exact ⟨rfl, rfl⟩
theorem eqnilE (w : World) : Calls Try.prog 23 #[.slice none 0 0, .slice none 0 0] w fun e w' => e = .returned (.bool true) ∧ w = w' := by
  go_enter Try.func23, Try.ntmps23
  go_wp2_with fail
  refine wp_loop_rounds 1 ?_
  rw [rounds_succ]
  go_wp2_with fail
  go_ret
  exact ⟨rfl, rfl⟩
theorem eqnilP (w : World) (f : Value) (hf : f = .func (.func 25) #[] #[]) : Calls Try.prog 24 #[.slice none 0 0, .slice none 0 0, f] w fun e w' => e = .returned (.bool true) ∧ w = w' := by
  subst hf
  go_enter Try.func24, Try.ntmps24
  go_wp2_with fail
  refine wp_loop_rounds 1 ?_
  rw [rounds_succ]
  go_wp2_with fail
  go_ret
  exact ⟨rfl, rfl⟩
set_option maxRecDepth 20000 in
set_option maxHeartbeats 2000000 in
theorem same_text (w : World) (s : ByteArray) : Calls Try.prog 11 #[vagg s, vagg s] w fun e w' => e = .returned (.bool true) ∧ Below w.heap.size w w' := by
  unfold vagg
  have al : ∀ o1 o2, Below w.heap.size w ((w.alloc o1).alloc o2) := fun o1 o2 => ((Below.refl _ w).alloc (Nat.le_refl _) _).alloc (by simp) _
  go_enter Try.func11, Try.ntmps11
  go_wp2_with (first
    | (go_at_call 21; refine (eqnilS _).mono ?_; rintro e w' ⟨rfl, rfl⟩)
    | (go_at_call 22; refine (eqnilF _).mono ?_; rintro e w' ⟨rfl, rfl⟩)
    | (go_at_call 23; refine (eqnilE _).mono ?_; rintro e w' ⟨rfl, rfl⟩)
    | (go_at_call 24; refine (eqnilP _ _ rfl).mono ?_; rintro e w' ⟨rfl, rfl⟩))
  go_ret
  exact ⟨by simp, al _ _⟩
theorem brow_shows {W : World} {base n : Nat} {v : Value} {l : List UInt8} (h : Brow W base v l) (hn : l.length = n) : ∃ A c, v = .slice A n c ∧ (A = none → c = 0) ∧ n ≤ c ∧ Bs W W.heap.size A l := by
  subst hn
  obtain ⟨A, c, e, -, hA, hs⟩ := Bs.of_own h
  subst e
  refine ⟨A, c, rfl, hA, ?_, hs⟩
  rcases h.2 with ⟨e, h0⟩ | ⟨g, cap, cur, e, _, _, hc, _⟩
  · omega
  · cases e; exact hc
def vl0 : Vl := { kind := 0, text := ⟨#[]⟩, list := [], fields := [], scores := [], points := [] }
theorem may_none (w : World) : Calls Try.prog 6 #[vnone] w fun e w' => e = .returned (.bool false) ∧ Below w.heap.size w w' := by
  have h := may_any (fun _ => true) w w.heap.size vnone vl0 ⟨_, _, _, _, rfl, Sl.none, Sl.none, Sl.none, Sl.none⟩
    { list := by simp [vl0], fields := by simp [vl0], scores := by simp [vl0], points := by simp [vl0], text := by decide, size := by decide, names := by simp [vl0], may := by simp [vl0] } (Nat.le_refl _)
  have e : vl0.may (fun _ => true) = false := by decide
  rw [e] at h
  exact h
/-- The worlds of told behind the readings: what was stays, two boxes hold the string. -/
def TSt (w W : World) (b : Nat) : Prop := Below w.heap.size w W ∧ Blk W w.heap.size #[.int .i64 1, .string ⟨#[97]⟩, .slice none 0 0, .slice none 0 0, .slice none 0 0, .slice none 0 0] 29 ∧ Blk W b #[.int .i64 1, .string ⟨#[97]⟩, .slice none 0 0, .slice none 0 0, .slice none 0 0, .slice none 0 0] 29
theorem TSt.next {w W W' : World} {b : Nat} (h : TSt w W b) (hb : Below W.heap.size W W') : TSt w W' b ∧ Six W' w.heap.size (.int .i64 1) (.string ⟨#[97]⟩) (.slice none 0 0) (.slice none 0 0) (.slice none 0 0) (.slice none 0 0) ∧ Six W' b (.int .i64 1) (.string ⟨#[97]⟩) (.slice none 0 0) (.slice none 0 0) (.slice none 0 0) (.slice none 0 0) :=
  have h1 := h.2.1.below hb
  have h2 := h.2.2.below hb
  ⟨⟨below_then h.1 hb, h1, h2⟩, h1.six, h2.six⟩
set_option maxRecDepth 20000 in
set_option maxHeartbeats 4000000 in
theorem told_any (w : World) : Calls Try.prog 5 #[] w fun e w' => e = .returned (.bool true) ∧ Below w.heap.size w w' := by
  have PT := fun W => put_text W ⟨#[97]⟩ (by decide)
  have e0 : [1] ++ be 4 (ByteArray.size ⟨#[97]⟩) ++ sbytes ⟨#[97]⟩ = [1, 0, 0, 0, 1, 97] := by decide +kernel
  rw [e0] at PT
  have GT := Lib.hid (fun (W : World) (A : Option Addr) (c : Nat) (hA : A = none → c = 0) (hc : 6 ≤ c) (hs : Bs W W.heap.size A [1, 0, 0, 0, 1, 97]) => get_text W A c 6 1 [1, 0, 0, 0, 1, 97] rfl hA hc hs rfl (by decide) (by decide) rfl)
  have e1 : (⟨([1, 0, 0, 0, 1, 97] : List UInt8).drop 5 |>.toArray⟩ : ByteArray) = ⟨#[97]⟩ := rfl
  simp only [e1] at GT
  have GN := get_none
  have SM := fun W b (h : TSt w W b) => (same_text W ⟨#[97]⟩).mono fun e w' ⟨he, hb⟩ => (And.intro he (h.next hb) : e = Ending.returned (Value.bool true) ∧ TSt w w' b ∧ Six w' w.heap.size (.int .i64 1) (.string ⟨#[97]⟩) (.slice none 0 0) (.slice none 0 0) (.slice none 0 0) (.slice none 0 0) ∧ Six w' b (.int .i64 1) (.string ⟨#[97]⟩) (.slice none 0 0) (.slice none 0 0) (.slice none 0 0) (.slice none 0 0))
  have SZ := fun W b (h : TSt w W b) => (size_any W W.heap.size (vagg ⟨#[97]⟩) (vtext ⟨#[97]⟩) (vr_text W _ _) (.inl rfl) (Nat.le_refl _) (by simp [vtext]) (by simp [vtext]) (by simp [vtext]) (by simp [vtext]) (by decide)).mono fun e w' ⟨he, hb⟩ => (And.intro he (h.next hb) : e = Ending.returned (Value.int .i64 17) ∧ TSt w w' b ∧ Six w' w.heap.size (.int .i64 1) (.string ⟨#[97]⟩) (.slice none 0 0) (.slice none 0 0) (.slice none 0 0) (.slice none 0 0) ∧ Six w' b (.int .i64 1) (.string ⟨#[97]⟩) (.slice none 0 0) (.slice none 0 0) (.slice none 0 0) (.slice none 0 0))
  have MY := fun W b (h : TSt w W b) => (may_any (fun _ => true) W W.heap.size (vagg ⟨#[97]⟩) (vtext ⟨#[97]⟩) (vr_text W _ _) (ok_text _ _ (by decide)) (Nat.le_refl _)).mono fun e w' ⟨he, hb⟩ => (And.intro (he.trans (by rw [may_text]; rfl)) (h.next hb) : e = Ending.returned (Value.bool true) ∧ TSt w w' b ∧ Six w' w.heap.size (.int .i64 1) (.string ⟨#[97]⟩) (.slice none 0 0) (.slice none 0 0) (.slice none 0 0) (.slice none 0 0) ∧ Six w' b (.int .i64 1) (.string ⟨#[97]⟩) (.slice none 0 0) (.slice none 0 0) (.slice none 0 0) (.slice none 0 0))
  have MN := may_none
  have NH := name_hash
  unfold vagg at PT GT SM SZ MY
  unfold vnone at GN MN
  have a0 := (Below.refl w.heap.size w).alloc (Nat.le_refl _) (.cells #[.int .i64 1, .string ⟨#[97]⟩, .slice none 0 0, .slice none 0 0, .slice none 0 0, .slice none 0 0] 29)
  have k0 := Blk.new w #[.int .i64 1, .string ⟨#[97]⟩, .slice none 0 0, .slice none 0 0, .slice none 0 0, .slice none 0 0] 29
  have A0 := Lib.hid a0
  have K0 := Lib.hid k0
  clear a0 k0 e0 e1
  go_enter Try.func5, Try.ntmps5
  go_wp2_with (go_at_call 9; refine (PT _).mono ?_; rintro e w1 ⟨v1, rfl, r1, b1⟩; obtain ⟨A, c, rfl, hA, hc, hs⟩ := brow_shows r1 (n := 6) rfl)
  have GT1 := GT.out _ A c hA hc hs
  refine GT1.mono ?_
  rintro e w2 ⟨rfl, b2⟩
  have T2 : TSt w (w2.alloc (.cells #[.int .i64 1, .string ⟨#[97]⟩, .slice none 0 0, .slice none 0 0, .slice none 0 0, .slice none 0 0] 29)) w2.heap.size := by
    have al2 := (Below.refl w2.heap.size w2).alloc (Nat.le_refl _) (.cells #[.int .i64 1, .string ⟨#[97]⟩, .slice none 0 0, .slice none 0 0, .slice none 0 0, .slice none 0 0] 29)
    exact ⟨below_then (below_then (below_then A0.out b1) b2) al2, ((K0.out.below b1).below b2).below al2, Blk.new w2 _ _⟩
  have HT2 := Lib.hid T2
  have KV : Hid (∀ w3 o, Below (w2.alloc (.cells #[.int .i64 1, .string ⟨#[97]⟩, .slice none 0 0, .slice none 0 0, .slice none 0 0, .slice none 0 0] 29)).heap.size (w2.alloc (.cells #[.int .i64 1, .string ⟨#[97]⟩, .slice none 0 0, .slice none 0 0, .slice none 0 0, .slice none 0 0] 29)) w3 → (convert 31 9 (.slice A 6 c)).run Try.prog (w3.alloc o) = .ok (.string ⟨#[1, 0, 0, 0, 1, 97]⟩) (w3.alloc o)) := fun w3 o b3 =>
    convert_n c 6 (l := [1, 0, 0, 0, 1, 97]) rfl (hs.below ((((b2.alloc b2.size _).mono (Nat.le_refl _)).trans (b3.mono (by have := b2.size; simp; omega))).alloc (by have h1 := b2.size; have h2 := b3.size; simp at h2; omega) o))
  clear T2 GT1 hs hA hc r1
  go_wp2_with (first
    | (go_at_call 10; refine (GN _).mono ?_; rintro e w3 ⟨rfl, b3⟩; obtain ⟨T4, ⟨p0, p1, p2, p3, p4, p5⟩, q0, q1, q2, q3, q4, q5⟩ := ((HT2.out.next b3).1).next ((Below.refl w3.heap.size w3).alloc (Nat.le_refl _) (.cells #[.int .i64 0, .string ⟨#[]⟩, .slice none 0 0, .slice none 0 0, .slice none 0 0, .slice none 0 0] 29)); have kv := KV.out w3 (.cells #[.int .i64 0, .string ⟨#[]⟩, .slice none 0 0, .slice none 0 0, .slice none 0 0, .slice none 0 0] 29) b3; clear b3)
    | (go_at_call 11; refine (SM _ _ (by assumption)).mono ?_; rintro e w5 ⟨rfl, T5, ⟨p0, p1, p2, p3, p4, p5⟩, q0, q1, q2, q3, q4, q5⟩)
    | (go_at_call 8; refine (SZ _ _ (by assumption)).mono ?_; rintro e w6 ⟨rfl, T6, ⟨p0, p1, p2, p3, p4, p5⟩, q0, q1, q2, q3, q4, q5⟩)
    | (go_at_call 6; with_reducible refine (MN _).mono ?_; rintro e w8 ⟨rfl, b8⟩)
    | (go_at_call 6; refine (MY _ _ (by assumption)).mono ?_; rintro e w7 ⟨rfl, T7, ⟨p0, p1, p2, p3, p4, p5⟩, q0, q1, q2, q3, q4, q5⟩)
    | (go_at_call 12; refine (NH _).mono ?_; rintro e w9 ⟨rfl, rfl⟩))
  go_ret
  exact ⟨rfl, below_then T7.1 b8⟩
end Go.Proofs.Ytgokjdlemfaagaa
