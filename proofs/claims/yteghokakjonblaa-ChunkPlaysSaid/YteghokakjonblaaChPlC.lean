/- The law's play: Set. -/
import Derived.Test.YteghokakjonblaaChPlA
import Derived.Test.YteghokakjonblaaChRefPl
import Derived.Deep.RegionHeld3
namespace Go.Proofs.Yteghokakjonblaa
open Go.RowKit Go.Lib
set_option linter.unusedVariables false
set_option maxRecDepth 20000 in
set_option maxHeartbeats 4000000 in
theorem set_in (w0 w : World) (q g o c : Nat) (l : List ByteArray) (P : PS w0 w q l l g o c) (k i j : Int) (f : Bool) (s : ByteArray) (hk : (wrap64 (k.tmod 8 + 8)).tmod 8 = 3) (i0 : -9223372036854775808 ≤ i) (i1 : i ≤ 9223372036854775807) (j0 : -9223372036854775808 ≤ j) (j1 : j ≤ 9223372036854775807) (hs : s.size ≤ 20) (hl : l.length ≤ 300) (hth : there l.length i = true) :
    Calls Try.prog 9 #[.pointer (some ⟨q, 0, none⟩), .slice (some ⟨g, o, none⟩) l.length c, .agg #[.int .i64 k, .int .i64 i, .int .i64 j, .bool f, .string s]] w (Played w0 q l) := by
  have PP := Lib.hid P
  have lc := P.tx.2.1
  have c9 := P.tx.2.2.1
  unfold maxLen at c9
  have bw := P.bel.size
  obtain ⟨n, en⟩ : ∃ n, n = l.length := ⟨_, rfl⟩
  rw [← en] at lc hl ⊢
  have LN := Lib.hid en
  have n0 : (0 : Int) ≤ (n : Int) := by omega
  have n9 : (n : Int) ≤ 300 := by omega
  have nc : (n : Int) ≤ (c : Int) := by omega
  have c0 : (0 : Int) ≤ (c : Int) := by omega
  have AL : Hid (Below w.heap.size w (w.alloc (.cells #[.int .i64 k, .int .i64 i, .int .i64 j, .bool f, .string s] 28))) := (Below.refl _ w).alloc (Nat.le_refl _) _
  obtain ⟨m, em, hm⟩ := there_is hth
  have RP : Hid (∀ W, Calls Try.prog 23 #[.int .i64 (n : Int), .int .i64 i] W fun e w' => e = .returned (.tuple #[.int .i64 (m : Int), .bool true]) ∧ w' = W) := fun W => by
    have := rplace_any W n (by omega) i i0 i1
    rwa [show front n i = (m : Int) by rw [en]; exact em, show there n i = true by rw [en]; exact hth] at this
  have m0 : (0 : Int) ≤ (m : Int) := by omega
  have m1 : (m : Int) < (n : Int) := by omega
  have m2 : (m : Int) ≤ (n : Int) := by omega
  have m3 : (m : Int) ≤ (c : Int) := by omega
  have m4 : (m : Int) + 1 ≤ (n : Int) := by omega
  have m5 : (m : Int) ≤ 300 := by omega
  have m6 : (0 : Int) ≤ (m : Int) + 1 := by omega
  have m7 : (m : Int) + 1 ≤ (c : Int) := by omega
  have m8 : (m : Int) < (l.length : Int) := by omega
  have m9 : m < l.length := hm
  have HM : Hid (m < l.length ∧ m < n) := by show m < l.length ∧ m < n; omega
  have PU : Hid (Calls Try.prog 22 #[.pointer (some ⟨q, 0, none⟩), .int .i64 i, .string s] (w.alloc (.cells #[.int .i64 k, .int .i64 i, .int .i64 j, .bool f, .string s] 28)) fun e w' => e = .returned (.bool true) ∧ PS w0 w' q (l.set m s) l g o c ∧ ∀ b, w.heap.size ≤ b → b < (w.alloc (.cells #[.int .i64 k, .int .i64 i, .int .i64 j, .bool f, .string s] 28)).heap.size → w'.heap[b]? = (w.alloc (.cells #[.int .i64 k, .int .i64 i, .int .i64 j, .bool f, .string s] 28)).heap[b]?) := ps_call PP.out AL.out fun R fi fl => by
    have := set_did _ q R fi (by rw [fi.num, fl]; have := LN.out; omega) i i0 i1 s (by omega)
    rw [fl, hth] at this
    unfold setOf at this
    rw [if_pos hth, em, Int.toNat_natCast] at this
    exact this
  clear P en em hth hm i0 i1 j0 j1
  go_enter Try.func9, Try.ntmps9
  go_wp2_with fail
  go_at_call 23
  with_reducible refine (RP.out _).mono ?_
  rintro e w1 ⟨rfl, rfl⟩
  go_wp2_with fail
  go_at_call 22
  with_reducible refine PU.out.mono ?_
  rintro e w2 ⟨rfl, p2, kb⟩
  have P2 := Lib.hid p2
  clear p2 PU RP PP AL
  have cb : ∀ m, m < 5 → w2.cell? ⟨w.heap.size, m, none⟩ = (#[.int .i64 k, .int .i64 i, .int .i64 j, .bool f, .string s] : Array Value)[m]? := fun m _ => by
    have e := kb w.heap.size (Nat.le_refl _) (by simp)
    rw [World.cell?_of_block e, World.cell?_alloc_new]
  have cb0 : w2.cell? ⟨w.heap.size, 0, none⟩ = some (.int .i64 k) := cb 0 (by decide)
  have cb1 : w2.cell? ⟨w.heap.size, 1, none⟩ = some (.int .i64 i) := cb 1 (by decide)
  have cb2 : w2.cell? ⟨w.heap.size, 2, none⟩ = some (.int .i64 j) := cb 2 (by decide)
  have cb3 : w2.cell? ⟨w.heap.size, 3, none⟩ = some (.bool f) := cb 3 (by decide)
  have cb4 : w2.cell? ⟨w.heap.size, 4, none⟩ = some (.string s) := cb 4 (by decide)
  have kz : w.heap.size < w2.heap.size := by
    obtain ⟨-, e, -⟩ := And.intro trivial (And.intro (kb w.heap.size (Nat.le_refl _) (by simp)) trivial)
    rcases Nat.lt_or_ge w.heap.size w2.heap.size with x | x
    · exact x
    · rw [Array.getElem?_eq_none x, heap_alloc_new] at e; cases e
  clear cb kb
  have B3 : Hid (Below w2.heap.size w2 (w2.alloc (.cells #[] 9))) := (Below.refl _ w2).alloc (Nat.le_refl _) _
  go_wp2_with (first
    | (at_builtin; (refine wpList_mine rfl (.tmp 114) (.tmp 115) rfl rfl (mine_none w2.heap.size (Nat.le_refl _) (heap_alloc_new _ _)) (some ⟨g, o, none⟩) n c rfl LN.out.symm (P2.out.tx.keep B3.out) (by have := LN.out; simp only [List.length_nil]; omega) B3.out.size ?_); intro v4 w4 m4 b4 k4; obtain ⟨g4, c4, rfl, it4, ge4, lt4⟩ := m4.slice; have IT4 := Lib.hid it4; have B4 : Hid (Below w2.heap.size w2 w4) := below_then_at B3.out b4; have fz : w4.frozen? ⟨g4, m, none⟩ = false := m4.frozen m; obtain ⟨y, cz⟩ : ∃ y, w4.cell? ⟨g4, m, none⟩ = some (.string y) := (by obtain ⟨p, e, hc⟩ := it4.at_ m (by simpa using HM.out.1); injection e with e; subst e; rw [Addr.add_lit, Nat.zero_add] at hc; exact ⟨_, hc⟩); have cs : w4.cell? ⟨w.heap.size, 4, none⟩ = some (.string s) := (by rw [B4.out.cell (p := ⟨w.heap.size, 4, none⟩) kz]; exact cb4); have GE := Lib.hid (And.intro ge4 lt4); clear m4 b4 k4 it4 ge4 lt4)
    | fail)
  go_ret2
  have hl4 : ([] ++ l).length = n := by rw [List.nil_append]; exact LN.out.symm
  have it5 := IT4.out.set_ m (by rw [List.nil_append]; exact HM.out.1) s
  rw [List.nil_append] at it5
  refine ⟨l.set m s, g4, 0, c4, ?_, P2.out.other (B4.out.setCell (p := ⟨g4, m, none⟩) GE.out.1 (.string s)) it5 GE.out.1 (by rw [World.size_setCell]; exact GE.out.2), by simp⟩
  rw [List.length_set, ← LN.out]
  first | rfl | simp [hl4] | simp [LN.out]

set_option maxRecDepth 20000 in
set_option maxHeartbeats 4000000 in
theorem set_out (w0 w : World) (q g o c : Nat) (l : List ByteArray) (P : PS w0 w q l l g o c) (k i j : Int) (f : Bool) (s : ByteArray) (hk : (wrap64 (k.tmod 8 + 8)).tmod 8 = 3) (i0 : -9223372036854775808 ≤ i) (i1 : i ≤ 9223372036854775807) (j0 : -9223372036854775808 ≤ j) (j1 : j ≤ 9223372036854775807) (hs : s.size ≤ 20) (hl : l.length ≤ 300) (hth : there l.length i = false) :
    Calls Try.prog 9 #[.pointer (some ⟨q, 0, none⟩), .slice (some ⟨g, o, none⟩) l.length c, .agg #[.int .i64 k, .int .i64 i, .int .i64 j, .bool f, .string s]] w (Played w0 q l) := by
  have PP := Lib.hid P
  have lc := P.tx.2.1
  have c9 := P.tx.2.2.1
  unfold maxLen at c9
  have bw := P.bel.size
  obtain ⟨n, en⟩ : ∃ n, n = l.length := ⟨_, rfl⟩
  rw [← en] at lc hl ⊢
  have LN := Lib.hid en
  have n0 : (0 : Int) ≤ (n : Int) := by omega
  have n9 : (n : Int) ≤ 300 := by omega
  have nc : (n : Int) ≤ (c : Int) := by omega
  have c0 : (0 : Int) ≤ (c : Int) := by omega
  have AL : Hid (Below w.heap.size w (w.alloc (.cells #[.int .i64 k, .int .i64 i, .int .i64 j, .bool f, .string s] 28))) := (Below.refl _ w).alloc (Nat.le_refl _) _
  obtain ⟨fr, efr⟩ : ∃ fr, fr = front n i := ⟨_, rfl⟩
  have RP : Hid (∀ W, Calls Try.prog 23 #[.int .i64 (n : Int), .int .i64 i] W fun e w' => e = .returned (.tuple #[.int .i64 fr, .bool false]) ∧ w' = W) := fun W => by
    have := rplace_any W n (by omega) i i0 i1
    rwa [← efr, show there n i = false by rw [en]; exact hth] at this
  have PU : Hid (Calls Try.prog 22 #[.pointer (some ⟨q, 0, none⟩), .int .i64 i, .string s] (w.alloc (.cells #[.int .i64 k, .int .i64 i, .int .i64 j, .bool f, .string s] 28)) fun e w' => e = .returned (.bool false) ∧ PS w0 w' q l l g o c ∧ ∀ b, w.heap.size ≤ b → b < (w.alloc (.cells #[.int .i64 k, .int .i64 i, .int .i64 j, .bool f, .string s] 28)).heap.size → w'.heap[b]? = (w.alloc (.cells #[.int .i64 k, .int .i64 i, .int .i64 j, .bool f, .string s] 28)).heap[b]?) := ps_call PP.out AL.out fun R fi fl => by
    have := set_did _ q R fi (by rw [fi.num, fl]; have := LN.out; omega) i i0 i1 s (by omega)
    rw [fl, hth] at this
    unfold setOf at this
    rw [if_neg (by rw [hth]; simp)] at this
    exact this
  clear P en efr hth i0 i1 j0 j1
  go_enter Try.func9, Try.ntmps9
  go_wp2_with fail
  go_at_call 23
  with_reducible refine (RP.out _).mono ?_
  rintro e w1 ⟨rfl, rfl⟩
  go_wp2_with fail
  go_at_call 22
  with_reducible refine PU.out.mono ?_
  rintro e w2 ⟨rfl, p2, kb⟩
  have P2 := Lib.hid p2
  clear p2 PU RP PP AL
  have cb : ∀ m, m < 5 → w2.cell? ⟨w.heap.size, m, none⟩ = (#[.int .i64 k, .int .i64 i, .int .i64 j, .bool f, .string s] : Array Value)[m]? := fun m _ => by
    have e := kb w.heap.size (Nat.le_refl _) (by simp)
    rw [World.cell?_of_block e, World.cell?_alloc_new]
  have cb0 : w2.cell? ⟨w.heap.size, 0, none⟩ = some (.int .i64 k) := cb 0 (by decide)
  have cb1 : w2.cell? ⟨w.heap.size, 1, none⟩ = some (.int .i64 i) := cb 1 (by decide)
  have cb2 : w2.cell? ⟨w.heap.size, 2, none⟩ = some (.int .i64 j) := cb 2 (by decide)
  have cb3 : w2.cell? ⟨w.heap.size, 3, none⟩ = some (.bool f) := cb 3 (by decide)
  have cb4 : w2.cell? ⟨w.heap.size, 4, none⟩ = some (.string s) := cb 4 (by decide)
  have kz : w.heap.size < w2.heap.size := by
    obtain ⟨-, e, -⟩ := And.intro trivial (And.intro (kb w.heap.size (Nat.le_refl _) (by simp)) trivial)
    rcases Nat.lt_or_ge w.heap.size w2.heap.size with x | x
    · exact x
    · rw [Array.getElem?_eq_none x, heap_alloc_new] at e; cases e
  clear cb kb
  go_wp2_with fail
  go_ret2
  rw [LN.out]
  exact ⟨l, g, o, c, by first | rfl | simp, P2.out, by simp⟩

end Go.Proofs.Yteghokakjonblaa
