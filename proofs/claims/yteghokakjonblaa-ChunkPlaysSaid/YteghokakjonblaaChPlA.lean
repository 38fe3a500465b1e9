/- The law's play: Push, Pop. -/
import Derived.Test.YteghokakjonblaaChPs
import Derived.Test.YteghokakjonblaaChRefPl
import Derived.Deep.RegionHeld3
namespace Go.Proofs.Yteghokakjonblaa
open Go.RowKit Go.Lib
set_option linter.unusedVariables false
/-- What play leaves: the list and the row hold the same. -/
def Played (w0 : World) (q : Nat) (l : List ByteArray) (e : Ending) (w' : World) : Prop :=
  ∃ l' g' o' c', e = .returned (.tuple #[.slice (some ⟨g', o', none⟩) l'.length c', .bool true]) ∧ PS w0 w' q l' l' g' o' c' ∧ l'.length ≤ l.length + 1
set_option maxRecDepth 20000 in
set_option maxHeartbeats 4000000 in
theorem push_0_true (w0 w : World) (q g o c : Nat) (l : List ByteArray) (P : PS w0 w q l l g o c) (k i j : Int) (s : ByteArray) (hk : (wrap64 (k.tmod 8 + 8)).tmod 8 = 0) (i0 : -9223372036854775808 ≤ i) (i1 : i ≤ 9223372036854775807) (j0 : -9223372036854775808 ≤ j) (j1 : j ≤ 9223372036854775807) (hs : s.size ≤ 20) (hl : l.length ≤ 300) :
    Calls Try.prog 9 #[.pointer (some ⟨q, 0, none⟩), .slice (some ⟨g, o, none⟩) l.length c, .agg #[.int .i64 k, .int .i64 i, .int .i64 j, .bool true, .string s]] w (Played w0 q l) := by
  have PP := Lib.hid P
  have lc := P.tx.2.1
  have c9 := P.tx.2.2.1
  unfold maxLen at c9
  have bw := P.bel.size
  obtain ⟨n, en⟩ : ∃ n, n = l.length := ⟨_, rfl⟩
  rw [← en] at lc hl ⊢
  have LN := Lib.hid en
  have n0 : (0 : Int) ≤ (n : Int) := by omega
  have n9 : (n : Int) ≤ 300 := by omega
  have nc : (n : Int) ≤ (c : Int) := by omega
  have c0 : (0 : Int) ≤ (c : Int) := by omega
  have AL : Hid (Below w.heap.size w (w.alloc (.cells #[.int .i64 k, .int .i64 i, .int .i64 j, .bool true, .string s] 28))) := (Below.refl _ w).alloc (Nat.le_refl _) _
  obtain ⟨fr, efr⟩ : ∃ fr, fr = front n i := ⟨_, rfl⟩
  obtain ⟨th, eth⟩ : ∃ th, th = there n i := ⟨_, rfl⟩
  have RP : Hid (∀ W, Calls Try.prog 23 #[.int .i64 (n : Int), .int .i64 i] W fun e w' => e = .returned (.tuple #[.int .i64 fr, .bool th]) ∧ w' = W) := fun W => by
    have := rplace_any W n (by omega) i i0 i1
    rwa [← efr, ← eth] at this
  have PU : Hid (Calls Try.prog 16 #[.pointer (some ⟨q, 0, none⟩), .bool true, .string s] (w.alloc (.cells #[.int .i64 k, .int .i64 i, .int .i64 j, .bool true, .string s] 28)) fun e w' => e = .returned (.tuple #[]) ∧ PS w0 w' q (s :: l) l g o c ∧ ∀ b, w.heap.size ≤ b → b < (w.alloc (.cells #[.int .i64 k, .int .i64 i, .int .i64 j, .bool true, .string s] 28)).heap.size → w'.heap[b]? = (w.alloc (.cells #[.int .i64 k, .int .i64 i, .int .i64 j, .bool true, .string s] 28)).heap[b]?) := ps_call PP.out AL.out fun R fi fl => by
    have := push_any _ q R fi (by rw [fi.num, fl]; have := LN.out; omega) true s (by omega)
    rw [fl] at this
    simpa using this
  clear P en efr eth i0 i1 j0 j1
  go_enter Try.func9, Try.ntmps9
  go_wp2_with fail
  go_at_call 23
  with_reducible refine (RP.out _).mono ?_
  rintro e w1 ⟨rfl, rfl⟩
  go_wp2_with fail
  go_at_call 16
  with_reducible refine PU.out.mono ?_
  rintro e w2 ⟨rfl, p2, kb⟩
  have P2 := Lib.hid p2
  clear p2 PU RP PP AL
  have cb : ∀ m, m < 5 → w2.cell? ⟨w.heap.size, m, none⟩ = (#[.int .i64 k, .int .i64 i, .int .i64 j, .bool true, .string s] : Array Value)[m]? := fun m _ => by
    have e := kb w.heap.size (Nat.le_refl _) (by simp)
    rw [World.cell?_of_block e, World.cell?_alloc_new]
  have cb0 : w2.cell? ⟨w.heap.size, 0, none⟩ = some (.int .i64 k) := cb 0 (by decide)
  have cb1 : w2.cell? ⟨w.heap.size, 1, none⟩ = some (.int .i64 i) := cb 1 (by decide)
  have cb2 : w2.cell? ⟨w.heap.size, 2, none⟩ = some (.int .i64 j) := cb 2 (by decide)
  have cb3 : w2.cell? ⟨w.heap.size, 3, none⟩ = some (.bool true) := cb 3 (by decide)
  have cb4 : w2.cell? ⟨w.heap.size, 4, none⟩ = some (.string s) := cb 4 (by decide)
  have kz : w.heap.size < w2.heap.size := by
    obtain ⟨-, e, -⟩ := And.intro trivial (And.intro (kb w.heap.size (Nat.le_refl _) (by simp)) trivial)
    rcases Nat.lt_or_ge w.heap.size w2.heap.size with x | x
    · exact x
    · rw [Array.getElem?_eq_none x, heap_alloc_new] at e; cases e
  clear cb kb
  have B3 : Hid (Below w2.heap.size w2 (w2.alloc (.cells #[.string s] 9))) := (Below.refl _ w2).alloc (Nat.le_refl _) _
  go_wp2_with (first
    | (at_builtin; (refine wpList_mine rfl (.tmp 48) (.tmp 49) rfl rfl (mine_one w2.heap.size s (Nat.le_refl _) (heap_alloc_new _ _)) (some ⟨g, o, none⟩) n c rfl LN.out.symm (P2.out.tx.keep B3.out) (by have := LN.out; simp only [List.length_cons, List.length_nil]; omega) B3.out.size ?_); intro v4 w4 m4 b4 k4; obtain ⟨g4, c4, rfl, it4, ge4, lt4⟩ := m4.slice; have M4 := Lib.hid (P2.out.other (below_then_at B3.out b4) it4 ge4 lt4); clear m4 b4 k4 it4)
    | fail)
  go_ret2
  exact ⟨s :: l, g4, 0, c4, by first | rfl | simp, M4.out, by simp⟩

set_option maxRecDepth 20000 in
set_option maxHeartbeats 4000000 in
theorem push_0_false (w0 w : World) (q g o c : Nat) (l : List ByteArray) (P : PS w0 w q l l g o c) (k i j : Int) (s : ByteArray) (hk : (wrap64 (k.tmod 8 + 8)).tmod 8 = 0) (i0 : -9223372036854775808 ≤ i) (i1 : i ≤ 9223372036854775807) (j0 : -9223372036854775808 ≤ j) (j1 : j ≤ 9223372036854775807) (hs : s.size ≤ 20) (hl : l.length ≤ 300) :
    Calls Try.prog 9 #[.pointer (some ⟨q, 0, none⟩), .slice (some ⟨g, o, none⟩) l.length c, .agg #[.int .i64 k, .int .i64 i, .int .i64 j, .bool false, .string s]] w (Played w0 q l) := by
  have PP := Lib.hid P
  have lc := P.tx.2.1
  have c9 := P.tx.2.2.1
  unfold maxLen at c9
  have bw := P.bel.size
  obtain ⟨n, en⟩ : ∃ n, n = l.length := ⟨_, rfl⟩
  rw [← en] at lc hl ⊢
  have LN := Lib.hid en
  have n0 : (0 : Int) ≤ (n : Int) := by omega
  have n9 : (n : Int) ≤ 300 := by omega
  have nc : (n : Int) ≤ (c : Int) := by omega
  have c0 : (0 : Int) ≤ (c : Int) := by omega
  have AL : Hid (Below w.heap.size w (w.alloc (.cells #[.int .i64 k, .int .i64 i, .int .i64 j, .bool false, .string s] 28))) := (Below.refl _ w).alloc (Nat.le_refl _) _
  obtain ⟨fr, efr⟩ : ∃ fr, fr = front n i := ⟨_, rfl⟩
  obtain ⟨th, eth⟩ : ∃ th, th = there n i := ⟨_, rfl⟩
  have RP : Hid (∀ W, Calls Try.prog 23 #[.int .i64 (n : Int), .int .i64 i] W fun e w' => e = .returned (.tuple #[.int .i64 fr, .bool th]) ∧ w' = W) := fun W => by
    have := rplace_any W n (by omega) i i0 i1
    rwa [← efr, ← eth] at this
  have PU : Hid (Calls Try.prog 16 #[.pointer (some ⟨q, 0, none⟩), .bool false, .string s] (w.alloc (.cells #[.int .i64 k, .int .i64 i, .int .i64 j, .bool false, .string s] 28)) fun e w' => e = .returned (.tuple #[]) ∧ PS w0 w' q (l ++ [s]) l g o c ∧ ∀ b, w.heap.size ≤ b → b < (w.alloc (.cells #[.int .i64 k, .int .i64 i, .int .i64 j, .bool false, .string s] 28)).heap.size → w'.heap[b]? = (w.alloc (.cells #[.int .i64 k, .int .i64 i, .int .i64 j, .bool false, .string s] 28)).heap[b]?) := ps_call PP.out AL.out fun R fi fl => by
    have := push_any _ q R fi (by rw [fi.num, fl]; have := LN.out; omega) false s (by omega)
    rw [fl] at this
    simpa using this
  clear P en efr eth i0 i1 j0 j1
  go_enter Try.func9, Try.ntmps9
  go_wp2_with fail
  go_at_call 23
  with_reducible refine (RP.out _).mono ?_
  rintro e w1 ⟨rfl, rfl⟩
  go_wp2_with fail
  go_at_call 16
  with_reducible refine PU.out.mono ?_
  rintro e w2 ⟨rfl, p2, kb⟩
  have P2 := Lib.hid p2
  clear p2 PU RP PP AL
  have cb : ∀ m, m < 5 → w2.cell? ⟨w.heap.size, m, none⟩ = (#[.int .i64 k, .int .i64 i, .int .i64 j, .bool false, .string s] : Array Value)[m]? := fun m _ => by
    have e := kb w.heap.size (Nat.le_refl _) (by simp)
    rw [World.cell?_of_block e, World.cell?_alloc_new]
  have cb0 : w2.cell? ⟨w.heap.size, 0, none⟩ = some (.int .i64 k) := cb 0 (by decide)
  have cb1 : w2.cell? ⟨w.heap.size, 1, none⟩ = some (.int .i64 i) := cb 1 (by decide)
  have cb2 : w2.cell? ⟨w.heap.size, 2, none⟩ = some (.int .i64 j) := cb 2 (by decide)
  have cb3 : w2.cell? ⟨w.heap.size, 3, none⟩ = some (.bool false) := cb 3 (by decide)
  have cb4 : w2.cell? ⟨w.heap.size, 4, none⟩ = some (.string s) := cb 4 (by decide)
  have kz : w.heap.size < w2.heap.size := by
    obtain ⟨-, e, -⟩ := And.intro trivial (And.intro (kb w.heap.size (Nat.le_refl _) (by simp)) trivial)
    rcases Nat.lt_or_ge w.heap.size w2.heap.size with x | x
    · exact x
    · rw [Array.getElem?_eq_none x, heap_alloc_new] at e; cases e
  clear cb kb
  have S0 : Hid (Below w2.heap.size w2 w2 ∧ w2.cell? ⟨w.heap.size, 4, none⟩ = some (.string s)) := ⟨Below.refl _ _, cb4⟩
  have KP : Hid (∀ W, Below w2.heap.size w2 W → Below w2.heap.size w2 W ∧ W.cell? ⟨w.heap.size, 4, none⟩ = some (.string s)) := fun W hb => ⟨hb, by rw [hb.cell (p := ⟨w.heap.size, 4, none⟩) kz]; exact S0.out.2⟩
  go_wp2_with fail
  go_region_held3 (fun W => Below w2.heap.size w2 W ∧ W.cell? ⟨w.heap.size, 4, none⟩ = some (.string s)) (first
    | exact KP.out _ (Below.refl _ _)
    | exact KP.out _ (Below.refl _ _).drew
    | exact KP.out _ (by assumption)
    | exact KP.out _ (Below.drew (by assumption))
    | exact KP.out _ ((Below.refl _ _).alloc (Nat.le_refl _) _)
    | exact KP.out _ ((Below.refl _ _).alloc (Nat.le_refl _) _).drew
    | exact KP.out _ (((Below.refl _ _).alloc (Nat.le_refl _) _).alloc (by simp) _)
    | exact KP.out _ (((Below.refl _ _).alloc (Nat.le_refl _) _).alloc (by simp) _).drew
    | exact KP.out _ (below_alloc (by assumption) _)
    | exact KP.out _ (below_alloc (by assumption) _).drew
    | assumption) (first
    | (refine step_mine (v := .slice (some ⟨_, 0, none⟩) 0 0) rfl (.tmp 51) (.tmp 52) rfl rfl (mine_none (base := w2.heap.size) _ (by simp) (by first | exact heap1 _ _ | exact heap1_d _ _ | exact heap2_old _ _ _ | exact heap2_old_d _ _ _ | exact heap2_new _ _ _ | exact heap2_new_d _ _ _)) (some ⟨g, o, none⟩) n c rfl LN.out.symm (P2.out.tx.keep (by first | assumption | exact Below.refl _ _ | exact (Below.refl _ _).drew | exact (Below.refl _ _).alloc (Nat.le_refl _) _ | exact ((Below.refl _ _).alloc (Nat.le_refl _) _).drew | exact ((Below.refl _ _).alloc (Nat.le_refl _) _).alloc (by simp) _ | exact (((Below.refl _ _).alloc (Nat.le_refl _) _).alloc (by simp) _).drew | exact below_alloc (by assumption) _ | exact (below_alloc (by assumption) _).drew : Below w2.heap.size w2 _)) (by have := LN.out; simp only [List.length_nil]; omega) ((by first | assumption | exact Below.refl _ _ | exact (Below.refl _ _).drew | exact (Below.refl _ _).alloc (Nat.le_refl _) _ | exact ((Below.refl _ _).alloc (Nat.le_refl _) _).drew | exact ((Below.refl _ _).alloc (Nat.le_refl _) _).alloc (by simp) _ | exact (((Below.refl _ _).alloc (Nat.le_refl _) _).alloc (by simp) _).drew | exact below_alloc (by assumption) _ | exact (below_alloc (by assumption) _).drew : Below w2.heap.size w2 _)).size ?_; intro v3 w3 m3 b3' k3; have b3 : Below w2.heap.size w2 w3 := ((by first | assumption | exact Below.refl _ _ | exact (Below.refl _ _).drew | exact (Below.refl _ _).alloc (Nat.le_refl _) _ | exact ((Below.refl _ _).alloc (Nat.le_refl _) _).drew | exact ((Below.refl _ _).alloc (Nat.le_refl _) _).alloc (by simp) _ | exact (((Below.refl _ _).alloc (Nat.le_refl _) _).alloc (by simp) _).drew | exact below_alloc (by assumption) _ | exact (below_alloc (by assumption) _).drew : Below w2.heap.size w2 _)).trans b3')
    | (refine step_mine rfl (.tmp 53) (.tmp 56) rfl rfl (k := [] ++ l) (l := [s]) (by first | exact m3 | exact m3.keep ((Below.refl _ _).alloc (Nat.le_refl _) _) | exact m3.keep ((Below.refl _ _).alloc (Nat.le_refl _) _).drew : Mine w2.heap.size _ v3 _) (some ⟨_, 0, none⟩) 1 1 rfl rfl (by first | exact tx_one_at _ s (by first | exact heap1 _ _ | exact heap1_d _ _ | exact heap2_old _ _ _ | exact heap2_old_d _ _ _ | exact heap2_new _ _ _ | exact heap2_new_d _ _ _) | exact tx_one_at _ s (keep_old k3 rfl) | exact tx_one_at _ s (keep_new k3 rfl)) (by have := LN.out; simp only [List.length_append, List.length_cons, List.length_nil]; omega) ((by first | assumption | exact Below.refl _ _ | exact (Below.refl _ _).drew | exact (Below.refl _ _).alloc (Nat.le_refl _) _ | exact ((Below.refl _ _).alloc (Nat.le_refl _) _).drew | exact ((Below.refl _ _).alloc (Nat.le_refl _) _).alloc (by simp) _ | exact (((Below.refl _ _).alloc (Nat.le_refl _) _).alloc (by simp) _).drew | exact below_alloc (by assumption) _ | exact (below_alloc (by assumption) _).drew : Below w2.heap.size w2 _)).size ?_; intro v4 w4 m4 b4' k4; have b4 : Below w2.heap.size w2 w4 := ((by first | assumption | exact Below.refl _ _ | exact (Below.refl _ _).drew | exact (Below.refl _ _).alloc (Nat.le_refl _) _ | exact ((Below.refl _ _).alloc (Nat.le_refl _) _).drew | exact ((Below.refl _ _).alloc (Nat.le_refl _) _).alloc (by simp) _ | exact (((Below.refl _ _).alloc (Nat.le_refl _) _).alloc (by simp) _).drew | exact below_alloc (by assumption) _ | exact (below_alloc (by assumption) _).drew : Below w2.heap.size w2 _)).trans b4'))
  all_goals rw [List.nil_append] at m4
  all_goals (obtain ⟨g4, c4, rfl, it4, ge4, lt4⟩ := m4.slice)
  all_goals (have M4 := Lib.hid (P2.out.other b4 it4 ge4 lt4))
  all_goals clear m3 m4 b3 b4 b3' b4' k3 k4 it4 KP S0
  all_goals go_wp2_with fail
  all_goals go_ret2
  all_goals exact ⟨l ++ [s], g4, 0, c4, by first | rfl | simp, M4.out, by simp⟩

set_option maxRecDepth 20000 in
set_option maxHeartbeats 4000000 in
theorem push_1_true (w0 w : World) (q g o c : Nat) (l : List ByteArray) (P : PS w0 w q l l g o c) (k i j : Int) (s : ByteArray) (hk : (wrap64 (k.tmod 8 + 8)).tmod 8 = 1) (i0 : -9223372036854775808 ≤ i) (i1 : i ≤ 9223372036854775807) (j0 : -9223372036854775808 ≤ j) (j1 : j ≤ 9223372036854775807) (hs : s.size ≤ 20) (hl : l.length ≤ 300) :
    Calls Try.prog 9 #[.pointer (some ⟨q, 0, none⟩), .slice (some ⟨g, o, none⟩) l.length c, .agg #[.int .i64 k, .int .i64 i, .int .i64 j, .bool true, .string s]] w (Played w0 q l) := by
  have PP := Lib.hid P
  have lc := P.tx.2.1
  have c9 := P.tx.2.2.1
  unfold maxLen at c9
  have bw := P.bel.size
  obtain ⟨n, en⟩ : ∃ n, n = l.length := ⟨_, rfl⟩
  rw [← en] at lc hl ⊢
  have LN := Lib.hid en
  have n0 : (0 : Int) ≤ (n : Int) := by omega
  have n9 : (n : Int) ≤ 300 := by omega
  have nc : (n : Int) ≤ (c : Int) := by omega
  have c0 : (0 : Int) ≤ (c : Int) := by omega
  have AL : Hid (Below w.heap.size w (w.alloc (.cells #[.int .i64 k, .int .i64 i, .int .i64 j, .bool true, .string s] 28))) := (Below.refl _ w).alloc (Nat.le_refl _) _
  obtain ⟨fr, efr⟩ : ∃ fr, fr = front n i := ⟨_, rfl⟩
  obtain ⟨th, eth⟩ : ∃ th, th = there n i := ⟨_, rfl⟩
  have RP : Hid (∀ W, Calls Try.prog 23 #[.int .i64 (n : Int), .int .i64 i] W fun e w' => e = .returned (.tuple #[.int .i64 fr, .bool th]) ∧ w' = W) := fun W => by
    have := rplace_any W n (by omega) i i0 i1
    rwa [← efr, ← eth] at this
  have PU : Hid (Calls Try.prog 16 #[.pointer (some ⟨q, 0, none⟩), .bool true, .string s] (w.alloc (.cells #[.int .i64 k, .int .i64 i, .int .i64 j, .bool true, .string s] 28)) fun e w' => e = .returned (.tuple #[]) ∧ PS w0 w' q (s :: l) l g o c ∧ ∀ b, w.heap.size ≤ b → b < (w.alloc (.cells #[.int .i64 k, .int .i64 i, .int .i64 j, .bool true, .string s] 28)).heap.size → w'.heap[b]? = (w.alloc (.cells #[.int .i64 k, .int .i64 i, .int .i64 j, .bool true, .string s] 28)).heap[b]?) := ps_call PP.out AL.out fun R fi fl => by
    have := push_any _ q R fi (by rw [fi.num, fl]; have := LN.out; omega) true s (by omega)
    rw [fl] at this
    simpa using this
  clear P en efr eth i0 i1 j0 j1
  go_enter Try.func9, Try.ntmps9
  go_wp2_with fail
  go_at_call 23
  with_reducible refine (RP.out _).mono ?_
  rintro e w1 ⟨rfl, rfl⟩
  go_wp2_with fail
  go_at_call 16
  with_reducible refine PU.out.mono ?_
  rintro e w2 ⟨rfl, p2, kb⟩
  have P2 := Lib.hid p2
  clear p2 PU RP PP AL
  have cb : ∀ m, m < 5 → w2.cell? ⟨w.heap.size, m, none⟩ = (#[.int .i64 k, .int .i64 i, .int .i64 j, .bool true, .string s] : Array Value)[m]? := fun m _ => by
    have e := kb w.heap.size (Nat.le_refl _) (by simp)
    rw [World.cell?_of_block e, World.cell?_alloc_new]
  have cb0 : w2.cell? ⟨w.heap.size, 0, none⟩ = some (.int .i64 k) := cb 0 (by decide)
  have cb1 : w2.cell? ⟨w.heap.size, 1, none⟩ = some (.int .i64 i) := cb 1 (by decide)
  have cb2 : w2.cell? ⟨w.heap.size, 2, none⟩ = some (.int .i64 j) := cb 2 (by decide)
  have cb3 : w2.cell? ⟨w.heap.size, 3, none⟩ = some (.bool true) := cb 3 (by decide)
  have cb4 : w2.cell? ⟨w.heap.size, 4, none⟩ = some (.string s) := cb 4 (by decide)
  have kz : w.heap.size < w2.heap.size := by
    obtain ⟨-, e, -⟩ := And.intro trivial (And.intro (kb w.heap.size (Nat.le_refl _) (by simp)) trivial)
    rcases Nat.lt_or_ge w.heap.size w2.heap.size with x | x
    · exact x
    · rw [Array.getElem?_eq_none x, heap_alloc_new] at e; cases e
  clear cb kb
  have B3 : Hid (Below w2.heap.size w2 (w2.alloc (.cells #[.string s] 9))) := (Below.refl _ w2).alloc (Nat.le_refl _) _
  go_wp2_with (first
    | (at_builtin; (refine wpList_mine rfl (.tmp 48) (.tmp 49) rfl rfl (mine_one w2.heap.size s (Nat.le_refl _) (heap_alloc_new _ _)) (some ⟨g, o, none⟩) n c rfl LN.out.symm (P2.out.tx.keep B3.out) (by have := LN.out; simp only [List.length_cons, List.length_nil]; omega) B3.out.size ?_); intro v4 w4 m4 b4 k4; obtain ⟨g4, c4, rfl, it4, ge4, lt4⟩ := m4.slice; have M4 := Lib.hid (P2.out.other (below_then_at B3.out b4) it4 ge4 lt4); clear m4 b4 k4 it4)
    | fail)
  go_ret2
  exact ⟨s :: l, g4, 0, c4, by first | rfl | simp, M4.out, by simp⟩

set_option maxRecDepth 20000 in
set_option maxHeartbeats 4000000 in
theorem push_1_false (w0 w : World) (q g o c : Nat) (l : List ByteArray) (P : PS w0 w q l l g o c) (k i j : Int) (s : ByteArray) (hk : (wrap64 (k.tmod 8 + 8)).tmod 8 = 1) (i0 : -9223372036854775808 ≤ i) (i1 : i ≤ 9223372036854775807) (j0 : -9223372036854775808 ≤ j) (j1 : j ≤ 9223372036854775807) (hs : s.size ≤ 20) (hl : l.length ≤ 300) :
    Calls Try.prog 9 #[.pointer (some ⟨q, 0, none⟩), .slice (some ⟨g, o, none⟩) l.length c, .agg #[.int .i64 k, .int .i64 i, .int .i64 j, .bool false, .string s]] w (Played w0 q l) := by
  have PP := Lib.hid P
  have lc := P.tx.2.1
  have c9 := P.tx.2.2.1
  unfold maxLen at c9
  have bw := P.bel.size
  obtain ⟨n, en⟩ : ∃ n, n = l.length := ⟨_, rfl⟩
  rw [← en] at lc hl ⊢
  have LN := Lib.hid en
  have n0 : (0 : Int) ≤ (n : Int) := by omega
  have n9 : (n : Int) ≤ 300 := by omega
  have nc : (n : Int) ≤ (c : Int) := by omega
  have c0 : (0 : Int) ≤ (c : Int) := by omega
  have AL : Hid (Below w.heap.size w (w.alloc (.cells #[.int .i64 k, .int .i64 i, .int .i64 j, .bool false, .string s] 28))) := (Below.refl _ w).alloc (Nat.le_refl _) _
  obtain ⟨fr, efr⟩ : ∃ fr, fr = front n i := ⟨_, rfl⟩
  obtain ⟨th, eth⟩ : ∃ th, th = there n i := ⟨_, rfl⟩
  have RP : Hid (∀ W, Calls Try.prog 23 #[.int .i64 (n : Int), .int .i64 i] W fun e w' => e = .returned (.tuple #[.int .i64 fr, .bool th]) ∧ w' = W) := fun W => by
    have := rplace_any W n (by omega) i i0 i1
    rwa [← efr, ← eth] at this
  have PU : Hid (Calls Try.prog 16 #[.pointer (some ⟨q, 0, none⟩), .bool false, .string s] (w.alloc (.cells #[.int .i64 k, .int .i64 i, .int .i64 j, .bool false, .string s] 28)) fun e w' => e = .returned (.tuple #[]) ∧ PS w0 w' q (l ++ [s]) l g o c ∧ ∀ b, w.heap.size ≤ b → b < (w.alloc (.cells #[.int .i64 k, .int .i64 i, .int .i64 j, .bool false, .string s] 28)).heap.size → w'.heap[b]? = (w.alloc (.cells #[.int .i64 k, .int .i64 i, .int .i64 j, .bool false, .string s] 28)).heap[b]?) := ps_call PP.out AL.out fun R fi fl => by
    have := push_any _ q R fi (by rw [fi.num, fl]; have := LN.out; omega) false s (by omega)
    rw [fl] at this
    simpa using this
  clear P en efr eth i0 i1 j0 j1
  go_enter Try.func9, Try.ntmps9
  go_wp2_with fail
  go_at_call 23
  with_reducible refine (RP.out _).mono ?_
  rintro e w1 ⟨rfl, rfl⟩
  go_wp2_with fail
  go_at_call 16
  with_reducible refine PU.out.mono ?_
  rintro e w2 ⟨rfl, p2, kb⟩
  have P2 := Lib.hid p2
  clear p2 PU RP PP AL
  have cb : ∀ m, m < 5 → w2.cell? ⟨w.heap.size, m, none⟩ = (#[.int .i64 k, .int .i64 i, .int .i64 j, .bool false, .string s] : Array Value)[m]? := fun m _ => by
    have e := kb w.heap.size (Nat.le_refl _) (by simp)
    rw [World.cell?_of_block e, World.cell?_alloc_new]
  have cb0 : w2.cell? ⟨w.heap.size, 0, none⟩ = some (.int .i64 k) := cb 0 (by decide)
  have cb1 : w2.cell? ⟨w.heap.size, 1, none⟩ = some (.int .i64 i) := cb 1 (by decide)
  have cb2 : w2.cell? ⟨w.heap.size, 2, none⟩ = some (.int .i64 j) := cb 2 (by decide)
  have cb3 : w2.cell? ⟨w.heap.size, 3, none⟩ = some (.bool false) := cb 3 (by decide)
  have cb4 : w2.cell? ⟨w.heap.size, 4, none⟩ = some (.string s) := cb 4 (by decide)
  have kz : w.heap.size < w2.heap.size := by
    obtain ⟨-, e, -⟩ := And.intro trivial (And.intro (kb w.heap.size (Nat.le_refl _) (by simp)) trivial)
    rcases Nat.lt_or_ge w.heap.size w2.heap.size with x | x
    · exact x
    · rw [Array.getElem?_eq_none x, heap_alloc_new] at e; cases e
  clear cb kb
  have S0 : Hid (Below w2.heap.size w2 w2 ∧ w2.cell? ⟨w.heap.size, 4, none⟩ = some (.string s)) := ⟨Below.refl _ _, cb4⟩
  have KP : Hid (∀ W, Below w2.heap.size w2 W → Below w2.heap.size w2 W ∧ W.cell? ⟨w.heap.size, 4, none⟩ = some (.string s)) := fun W hb => ⟨hb, by rw [hb.cell (p := ⟨w.heap.size, 4, none⟩) kz]; exact S0.out.2⟩
  go_wp2_with fail
  go_region_held3 (fun W => Below w2.heap.size w2 W ∧ W.cell? ⟨w.heap.size, 4, none⟩ = some (.string s)) (first
    | exact KP.out _ (Below.refl _ _)
    | exact KP.out _ (Below.refl _ _).drew
    | exact KP.out _ (by assumption)
    | exact KP.out _ (Below.drew (by assumption))
    | exact KP.out _ ((Below.refl _ _).alloc (Nat.le_refl _) _)
    | exact KP.out _ ((Below.refl _ _).alloc (Nat.le_refl _) _).drew
    | exact KP.out _ (((Below.refl _ _).alloc (Nat.le_refl _) _).alloc (by simp) _)
    | exact KP.out _ (((Below.refl _ _).alloc (Nat.le_refl _) _).alloc (by simp) _).drew
    | exact KP.out _ (below_alloc (by assumption) _)
    | exact KP.out _ (below_alloc (by assumption) _).drew
    | assumption) (first
    | (refine step_mine (v := .slice (some ⟨_, 0, none⟩) 0 0) rfl (.tmp 51) (.tmp 52) rfl rfl (mine_none (base := w2.heap.size) _ (by simp) (by first | exact heap1 _ _ | exact heap1_d _ _ | exact heap2_old _ _ _ | exact heap2_old_d _ _ _ | exact heap2_new _ _ _ | exact heap2_new_d _ _ _)) (some ⟨g, o, none⟩) n c rfl LN.out.symm (P2.out.tx.keep (by first | assumption | exact Below.refl _ _ | exact (Below.refl _ _).drew | exact (Below.refl _ _).alloc (Nat.le_refl _) _ | exact ((Below.refl _ _).alloc (Nat.le_refl _) _).drew | exact ((Below.refl _ _).alloc (Nat.le_refl _) _).alloc (by simp) _ | exact (((Below.refl _ _).alloc (Nat.le_refl _) _).alloc (by simp) _).drew | exact below_alloc (by assumption) _ | exact (below_alloc (by assumption) _).drew : Below w2.heap.size w2 _)) (by have := LN.out; simp only [List.length_nil]; omega) ((by first | assumption | exact Below.refl _ _ | exact (Below.refl _ _).drew | exact (Below.refl _ _).alloc (Nat.le_refl _) _ | exact ((Below.refl _ _).alloc (Nat.le_refl _) _).drew | exact ((Below.refl _ _).alloc (Nat.le_refl _) _).alloc (by simp) _ | exact (((Below.refl _ _).alloc (Nat.le_refl _) _).alloc (by simp) _).drew | exact below_alloc (by assumption) _ | exact (below_alloc (by assumption) _).drew : Below w2.heap.size w2 _)).size ?_; intro v3 w3 m3 b3' k3; have b3 : Below w2.heap.size w2 w3 := ((by first | assumption | exact Below.refl _ _ | exact (Below.refl _ _).drew | exact (Below.refl _ _).alloc (Nat.le_refl _) _ | exact ((Below.refl _ _).alloc (Nat.le_refl _) _).drew | exact ((Below.refl _ _).alloc (Nat.le_refl _) _).alloc (by simp) _ | exact (((Below.refl _ _).alloc (Nat.le_refl _) _).alloc (by simp) _).drew | exact below_alloc (by assumption) _ | exact (below_alloc (by assumption) _).drew : Below w2.heap.size w2 _)).trans b3')
    | (refine step_mine rfl (.tmp 53) (.tmp 56) rfl rfl (k := [] ++ l) (l := [s]) (by first | exact m3 | exact m3.keep ((Below.refl _ _).alloc (Nat.le_refl _) _) | exact m3.keep ((Below.refl _ _).alloc (Nat.le_refl _) _).drew : Mine w2.heap.size _ v3 _) (some ⟨_, 0, none⟩) 1 1 rfl rfl (by first | exact tx_one_at _ s (by first | exact heap1 _ _ | exact heap1_d _ _ | exact heap2_old _ _ _ | exact heap2_old_d _ _ _ | exact heap2_new _ _ _ | exact heap2_new_d _ _ _) | exact tx_one_at _ s (keep_old k3 rfl) | exact tx_one_at _ s (keep_new k3 rfl)) (by have := LN.out; simp only [List.length_append, List.length_cons, List.length_nil]; omega) ((by first | assumption | exact Below.refl _ _ | exact (Below.refl _ _).drew | exact (Below.refl _ _).alloc (Nat.le_refl _) _ | exact ((Below.refl _ _).alloc (Nat.le_refl _) _).drew | exact ((Below.refl _ _).alloc (Nat.le_refl _) _).alloc (by simp) _ | exact (((Below.refl _ _).alloc (Nat.le_refl _) _).alloc (by simp) _).drew | exact below_alloc (by assumption) _ | exact (below_alloc (by assumption) _).drew : Below w2.heap.size w2 _)).size ?_; intro v4 w4 m4 b4' k4; have b4 : Below w2.heap.size w2 w4 := ((by first | assumption | exact Below.refl _ _ | exact (Below.refl _ _).drew | exact (Below.refl _ _).alloc (Nat.le_refl _) _ | exact ((Below.refl _ _).alloc (Nat.le_refl _) _).drew | exact ((Below.refl _ _).alloc (Nat.le_refl _) _).alloc (by simp) _ | exact (((Below.refl _ _).alloc (Nat.le_refl _) _).alloc (by simp) _).drew | exact below_alloc (by assumption) _ | exact (below_alloc (by assumption) _).drew : Below w2.heap.size w2 _)).trans b4'))
  all_goals rw [List.nil_append] at m4
  all_goals (obtain ⟨g4, c4, rfl, it4, ge4, lt4⟩ := m4.slice)
  all_goals (have M4 := Lib.hid (P2.out.other b4 it4 ge4 lt4))
  all_goals clear m3 m4 b3 b4 b3' b4' k3 k4 it4 KP S0
  all_goals go_wp2_with fail
  all_goals go_ret2
  all_goals exact ⟨l ++ [s], g4, 0, c4, by first | rfl | simp, M4.out, by simp⟩

end Go.Proofs.Yteghokakjonblaa
