/- Package value: Put of a string. -/
import Derived.Test.YtgokjdlemfaagaaVlPut
import Derived.Deep.RegionHeld3
namespace Go.Proofs.Ytgokjdlemfaagaa
open Go.RowKit
set_option linter.unusedVariables false
theorem Brow.keep {W W' : World} {base : Nat} {v : Value} {l : List UInt8} (h : Brow W base v l) (hb : Below W.heap.size W W') : Brow W' base v l :=
  World.ownsRow.kept h (grown_of hb) (by
    rcases h.2 with ⟨rfl, _⟩ | ⟨g, cap, cur, rfl, _⟩
    · exact .inl rfl
    · exact .inr (fun e => by cases e))
theorem brow_one (W : World) (base : Nat) (c : UInt8) (x : Int) (hx : x = (c.toNat : Int)) (hb : base ≤ W.heap.size) : Brow (W.alloc (.cells #[.int .u8 x] 5)) base (.slice (some ⟨W.heap.size, 0, none⟩) 1 1) [c] := by
  subst hx
  exact ⟨rfl, .inr ⟨W.heap.size, 1, #[.int .u8 (c.toNat : Int)], rfl, hb, World.alloc_heap_new W _, Nat.le_refl _, by unfold maxLen; omega, rfl, rfl⟩⟩
theorem Grew.below {base : Nat} {w w' : World} {v v' : Value} {l : List UInt8} (h : Brow w base v l) (g : Grew base w w' v v') (hb : base ≤ w.heap.size) : Below base w w' :=
  (Below.refl base w).grown g.1 hb fun k hk => (World.ownsRow.lt h k hk).1
theorem count_put_below (w : World) (base : Nat) (v : Value) (l : List UInt8) (n : Nat) (h : Brow w base v l) (hb : base ≤ w.heap.size) (hl : l.length ≤ 1048576) (hn : n < 9223372036854775808) :
    Calls Try.prog 17 #[v, .int .i64 (n : Int)] w fun e w' => ∃ v', e = .returned v' ∧ Brow w' base v' (l ++ be 4 n) ∧ Below base w w' :=
  (count_put w base v l n h hb hl hn).mono fun e w' ⟨v', he, r, g⟩ => ⟨v', he, r, g.below h hb⟩
theorem MSt.later {w W W' : World} {cs : Array Value} (h : MSt w W cs) (b : Below (w.heap.size + 1) W W') : MSt w W' cs :=
  ⟨h.1.trans (b.mono (Nat.le_succ _)), Nat.lt_of_lt_of_le h.2.1 b.size, (b.block _ (Nat.lt_succ_self _)).trans h.2.2⟩
theorem MSt.alloc {w W : World} {cs : Array Value} (h : MSt w W cs) (o : Obj) : MSt w (W.alloc o).drew cs := h.next (((Below.refl _ W).alloc (Nat.le_refl _) o).drew)
/-- The string s as a value of its own. -/
def vtext (s : ByteArray) : Vl := { kind := 1, text := s, list := [], fields := [], scores := [], points := [] }
def vagg (s : ByteArray) : Value := .agg #[.int .i64 1, .string s, .slice none 0 0, .slice none 0 0, .slice none 0 0, .slice none 0 0]
theorem vr_text (w : World) (B : Nat) (s : ByteArray) : Vr w B (vagg s) (vtext s) := ⟨_, _, _, _, rfl, Sl.none, Sl.none, Sl.none, Sl.none⟩
theorem ok_text (pt : Nat × Nat → Bool) (s : ByteArray) (h : s.size ≤ 1048576) : VlOk pt (vtext s) where
  list := by simp [vtext]
  fields := by simp [vtext]
  scores := by simp [vtext]
  points := by simp [vtext]
  text := by simp only [vtext]; omega
  size := by simp [vtext, Vl.size, Vl.many, Vl.texts, Vl.sum]; omega
  names := by simp [vtext]
  may := by simp [vtext]
theorem may_text (pt : Nat × Nat → Bool) (s : ByteArray) : (vtext s).may pt = decide (s.size ≤ 4096) := by
  have e : (vtext s).may pt = (decide ((vtext s).all = (vtext s).len) && (((vtext s).many && decide (1 ≤ (vtext s).len) && decide ((vtext s).len ≤ 1000) && (vtext s).inOrder pt) || decide ((vtext s).kind = 1)) && Vl.short (vtext s).texts && decide ((vtext s).size ≤ 262144)) := rfl
  rw [e]
  have h1 : (vtext s).texts = [s] := rfl
  have h2 : (vtext s).size = 16 + s.size := by simp [vtext, Vl.size, Vl.many, Vl.texts, Vl.sum]
  have h3 : (vtext s).all = (vtext s).len := by simp [vtext, Vl.all, Vl.len]
  have h4 : (vtext s).kind = 1 := rfl
  rw [h1, h2, decide_eq_true h3, decide_eq_true h4]
  by_cases q : s.size ≤ 4096
  · have q2 : 16 + s.size ≤ 262144 := by omega
    simp [Vl.short, q, q2]
  · simp [Vl.short, q]
set_option maxRecDepth 20000 in
set_option maxHeartbeats 4000000 in
theorem put_text (w : World) (s : ByteArray) (hs : s.size ≤ 4096) :
    Calls Try.prog 9 #[vagg s] w fun e w' => ∃ v', e = .returned (.tuple #[v', .int .i64 0]) ∧ Brow w' (w.heap.size + 1) v' ([1] ++ be 4 s.size ++ sbytes s) ∧ Below w.heap.size w w' := by
  have MY := fun W => may_any (fun _ => true) W W.heap.size (vagg s) (vtext s) (vr_text W _ s) (ok_text _ s (by omega)) (Nat.le_refl _)
  rw [may_text, decide_eq_true hs] at MY
  have LN := fun W => len_any W W.heap.size (vagg s) (vtext s) (vr_text W _ s)
  have hl : (vtext s).len = s.size := rfl
  rw [hl] at LN
  unfold vagg at MY LN ⊢
  have HS := Lib.hid hs
  obtain ⟨z, hz⟩ : ∃ z, s.size = z := ⟨_, rfl⟩
  rw [hz] at LN
  have CP := fun W v (h : Brow W (w.heap.size + 1) v [1]) (hb : w.heap.size + 1 ≤ W.heap.size) => count_put_below W (w.heap.size + 1) v [1] s.size h hb (by decide) (by omega)
  rw [hz] at CP
  have HZ := Lib.hid hz
  have st0 : MSt w (w.alloc (.cells #[.int .i64 1, .string s, .slice none 0 0, .slice none 0 0, .slice none 0 0, .slice none 0 0] 29)) #[.int .i64 1, .string s, .slice none 0 0, .slice none 0 0, .slice none 0 0, .slice none 0 0] := ⟨(Below.refl _ w).alloc (Nat.le_refl _) _, by simp, Blk.new w _ _⟩
  have ST0 := Lib.hid st0
  clear hl hz st0 hs
  go_enter Try.func9, Try.ntmps9
  go_wp2_with (go_at_call 6; refine (MY _).mono ?_; rintro e w2 ⟨rfl, hb2⟩)
  have st2 := ST0.out.next hb2
  obtain ⟨q0, q1, q2, q3, q4, q5⟩ := st2.six
  have s0 : (MSt w w2.drew #[.int .i64 1, .string s, .slice none 0 0, .slice none 0 0, .slice none 0 0, .slice none 0 0] ∧ w2.drew.cell? ⟨w.heap.size, 0, none⟩ = some (.int .i64 1) ∧ w2.drew.cell? ⟨w.heap.size, 1, none⟩ = some (.string s) ∧ w2.drew.cell? ⟨w.heap.size, 2, none⟩ = some (.slice none 0 0) ∧ w2.drew.cell? ⟨w.heap.size, 3, none⟩ = some (.slice none 0 0) ∧ w2.drew.cell? ⟨w.heap.size, 4, none⟩ = some (.slice none 0 0) ∧ w2.drew.cell? ⟨w.heap.size, 5, none⟩ = some (.slice none 0 0)) := ⟨st2.next (Below.refl _ _).drew, q0, q1, q2, q3, q4, q5⟩
  have kp : ∀ W W', (MSt w W #[.int .i64 1, .string s, .slice none 0 0, .slice none 0 0, .slice none 0 0, .slice none 0 0] ∧ W.cell? ⟨w.heap.size, 0, none⟩ = some (.int .i64 1) ∧ W.cell? ⟨w.heap.size, 1, none⟩ = some (.string s) ∧ W.cell? ⟨w.heap.size, 2, none⟩ = some (.slice none 0 0) ∧ W.cell? ⟨w.heap.size, 3, none⟩ = some (.slice none 0 0) ∧ W.cell? ⟨w.heap.size, 4, none⟩ = some (.slice none 0 0) ∧ W.cell? ⟨w.heap.size, 5, none⟩ = some (.slice none 0 0)) → Below W.heap.size W W' → (MSt w W' #[.int .i64 1, .string s, .slice none 0 0, .slice none 0 0, .slice none 0 0, .slice none 0 0] ∧ W'.cell? ⟨w.heap.size, 0, none⟩ = some (.int .i64 1) ∧ W'.cell? ⟨w.heap.size, 1, none⟩ = some (.string s) ∧ W'.cell? ⟨w.heap.size, 2, none⟩ = some (.slice none 0 0) ∧ W'.cell? ⟨w.heap.size, 3, none⟩ = some (.slice none 0 0) ∧ W'.cell? ⟨w.heap.size, 4, none⟩ = some (.slice none 0 0) ∧ W'.cell? ⟨w.heap.size, 5, none⟩ = some (.slice none 0 0)) := fun W W' h b => by
    have st := h.1.next b
    obtain ⟨q0, q1, q2, q3, q4, q5⟩ := st.six
    exact ⟨st, q0, q1, q2, q3, q4, q5⟩
  have kb : ∀ W W', (MSt w W #[.int .i64 1, .string s, .slice none 0 0, .slice none 0 0, .slice none 0 0, .slice none 0 0] ∧ W.cell? ⟨w.heap.size, 0, none⟩ = some (.int .i64 1) ∧ W.cell? ⟨w.heap.size, 1, none⟩ = some (.string s) ∧ W.cell? ⟨w.heap.size, 2, none⟩ = some (.slice none 0 0) ∧ W.cell? ⟨w.heap.size, 3, none⟩ = some (.slice none 0 0) ∧ W.cell? ⟨w.heap.size, 4, none⟩ = some (.slice none 0 0) ∧ W.cell? ⟨w.heap.size, 5, none⟩ = some (.slice none 0 0)) → Below (w.heap.size + 1) W W' → (MSt w W' #[.int .i64 1, .string s, .slice none 0 0, .slice none 0 0, .slice none 0 0, .slice none 0 0] ∧ W'.cell? ⟨w.heap.size, 0, none⟩ = some (.int .i64 1) ∧ W'.cell? ⟨w.heap.size, 1, none⟩ = some (.string s) ∧ W'.cell? ⟨w.heap.size, 2, none⟩ = some (.slice none 0 0) ∧ W'.cell? ⟨w.heap.size, 3, none⟩ = some (.slice none 0 0) ∧ W'.cell? ⟨w.heap.size, 4, none⟩ = some (.slice none 0 0) ∧ W'.cell? ⟨w.heap.size, 5, none⟩ = some (.slice none 0 0)) := fun W W' h b => by
    have st := h.1.later b
    obtain ⟨q0, q1, q2, q3, q4, q5⟩ := st.six
    exact ⟨st, q0, q1, q2, q3, q4, q5⟩
  have KB := Lib.hid kb
  clear kb
  have s1 : ∀ o, (MSt w (w2.alloc o).drew #[.int .i64 1, .string s, .slice none 0 0, .slice none 0 0, .slice none 0 0, .slice none 0 0] ∧ (w2.alloc o).drew.cell? ⟨w.heap.size, 0, none⟩ = some (.int .i64 1) ∧ (w2.alloc o).drew.cell? ⟨w.heap.size, 1, none⟩ = some (.string s) ∧ (w2.alloc o).drew.cell? ⟨w.heap.size, 2, none⟩ = some (.slice none 0 0) ∧ (w2.alloc o).drew.cell? ⟨w.heap.size, 3, none⟩ = some (.slice none 0 0) ∧ (w2.alloc o).drew.cell? ⟨w.heap.size, 4, none⟩ = some (.slice none 0 0) ∧ (w2.alloc o).drew.cell? ⟨w.heap.size, 5, none⟩ = some (.slice none 0 0)) := fun o => kp w2.drew _ s0 ((Below.refl _ w2.drew).alloc (Nat.le_refl _) o)
  have S0 := Lib.hid s0
  have KP := Lib.hid kp
  have S1 := Lib.hid s1
  have ST2 := Lib.hid st2
  clear s0 kp s1 st2 MY
  have R1 := Lib.hid (brow_one w2.drew (w.heap.size + 1) 1 1 rfl ST2.out.2.1)
  have b2 : ∀ W : World, w2.drew.heap.size ≤ W.heap.size → Brow (W.alloc (.cells #[.int .u8 1] 5)) (w.heap.size + 1) (.slice (some ⟨W.heap.size, 0, none⟩) 1 1) [1] := fun W h => brow_one W _ 1 1 rfl (Nat.le_trans ST2.out.2.1 h)
  have sz : ∀ W, (MSt w W #[.int .i64 1, .string s, .slice none 0 0, .slice none 0 0, .slice none 0 0, .slice none 0 0] ∧ W.cell? ⟨w.heap.size, 0, none⟩ = some (.int .i64 1) ∧ W.cell? ⟨w.heap.size, 1, none⟩ = some (.string s) ∧ W.cell? ⟨w.heap.size, 2, none⟩ = some (.slice none 0 0) ∧ W.cell? ⟨w.heap.size, 3, none⟩ = some (.slice none 0 0) ∧ W.cell? ⟨w.heap.size, 4, none⟩ = some (.slice none 0 0) ∧ W.cell? ⟨w.heap.size, 5, none⟩ = some (.slice none 0 0)) → w.heap.size + 1 ≤ W.heap.size := fun W h => h.1.2.1
  have B2 := Lib.hid b2
  have SZ := Lib.hid sz
  clear b2 sz
  go_wp2_with fail
  go_region_held3 (fun W => (MSt w W #[.int .i64 1, .string s, .slice none 0 0, .slice none 0 0, .slice none 0 0, .slice none 0 0] ∧ W.cell? ⟨w.heap.size, 0, none⟩ = some (.int .i64 1) ∧ W.cell? ⟨w.heap.size, 1, none⟩ = some (.string s) ∧ W.cell? ⟨w.heap.size, 2, none⟩ = some (.slice none 0 0) ∧ W.cell? ⟨w.heap.size, 3, none⟩ = some (.slice none 0 0) ∧ W.cell? ⟨w.heap.size, 4, none⟩ = some (.slice none 0 0) ∧ W.cell? ⟨w.heap.size, 5, none⟩ = some (.slice none 0 0))) (first | assumption | exact S0.out | exact S1.out _ | exact KP.out _ _ (by assumption) (by assumption) | exact KB.out _ _ (by assumption) (by assumption) | exact KP.out _ _ (by assumption) ((Below.refl _ _).alloc (Nat.le_refl _) _)) (first
    | (go_at_call 7; refine (LN _).mono ?_; rintro e w' ⟨rfl, hbl⟩)
    | (go_at_call 17; refine (CP _ _ (by first | exact R1.out.keep hbl | exact B2.out _ hbl.size) (SZ.out _ (by assumption))).mono ?_; rintro e w4 ⟨v4, rfl, r4, g4⟩))
  all_goals
    have s4 : (MSt w w4 #[.int .i64 1, .string s, .slice none 0 0, .slice none 0 0, .slice none 0 0, .slice none 0 0] ∧ w4.cell? ⟨w.heap.size, 0, none⟩ = some (.int .i64 1) ∧ w4.cell? ⟨w.heap.size, 1, none⟩ = some (.string s) ∧ w4.cell? ⟨w.heap.size, 2, none⟩ = some (.slice none 0 0) ∧ w4.cell? ⟨w.heap.size, 3, none⟩ = some (.slice none 0 0) ∧ w4.cell? ⟨w.heap.size, 4, none⟩ = some (.slice none 0 0) ∧ w4.cell? ⟨w.heap.size, 5, none⟩ = some (.slice none 0 0)) := by assumption
    have S4 := Lib.hid s4
    obtain ⟨m4, q0, q1, q2, q3, q4, q5⟩ := s4
    have M4 := Lib.hid m4
    have LN4 : Hid (([1] ++ be 4 z).length + s.size ≤ 4194304) := by
      have h1 := HS.out
      show ([1] ++ be 4 z).length + s.size ≤ 4194304
      rw [List.length_append, be_length, List.length_singleton]; omega
    clear m4
    go_wp2_with (first
      | (at_builtin; refine wpList_append_text rfl (.tmp 23) (.tmp 25) rfl (w.heap.size + 1) _ _ rfl r4 s rfl LN4.out M4.out.2.1 ?_; intro v5 w5 r5 g5; obtain ⟨m5, p0, p1, p2, p3, p4, p5⟩ := KB.out _ _ S4.out (g5.below r4 M4.out.2.1)))
    have M5 := Lib.hid m5
    clear m5
    refine wp_loop_rounds 1 ?_
    rw [rounds_succ]
    go_wp2_with fail
    refine wp_loop_rounds 1 ?_
    rw [rounds_succ]
    go_wp2_with fail
    refine wp_loop_rounds 1 ?_
    rw [rounds_succ]
    go_wp2_with fail
    refine wp_loop_rounds 1 ?_
    rw [rounds_succ]
    go_wp2_with fail
    go_ret2
    refine ⟨_, rfl, ?_, M5.out.1⟩
    rw [HZ.out]
    exact r5
end Go.Proofs.Ytgokjdlemfaagaa
