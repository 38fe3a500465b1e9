/- The law's play: Insert (kind 5). -/
import Derived.Test.YteghokakjonblaaChPlA
import Derived.Test.YteghokakjonblaaChRefPl
import Derived.Deep.RegionHeld3
namespace Go.Proofs.Yteghokakjonblaa
open Go.RowKit Go.Lib
set_option linter.unusedVariables false
set_option maxRecDepth 20000 in
set_option maxHeartbeats 4000000 in
theorem ins_5_in (w0 w : World) (q g o c : Nat) (l : List ByteArray) (P : PS w0 w q l l g o c) (k i j : Int) (f : Bool) (s : ByteArray) (hk : (wrap64 (k.tmod 8 + 8)).tmod 8 = 5) (i0 : -9223372036854775808 ≤ i) (i1 : i ≤ 9223372036854775807) (j0 : -9223372036854775808 ≤ j) (j1 : j ≤ 9223372036854775807) (hs : s.size ≤ 20) (hl : l.length ≤ 300) (m : Nat) (ei : i = (m : Int)) (hm : m ≤ l.length) :
    Calls Try.prog 9 #[.pointer (some ⟨q, 0, none⟩), .slice (some ⟨g, o, none⟩) l.length c, .agg #[.int .i64 k, .int .i64 i, .int .i64 j, .bool f, .string s]] w (Played w0 q l) := by
  have PP := Lib.hid P
  have lc := P.tx.2.1
  have c9 := P.tx.2.2.1
  unfold maxLen at c9
  have bw := P.bel.size
  obtain ⟨n, en⟩ : ∃ n, n = l.length := ⟨_, rfl⟩
  rw [← en] at lc hl ⊢
  have LN := Lib.hid en
  have n0 : (0 : Int) ≤ (n : Int) := by omega
  have n9 : (n : Int) ≤ 300 := by omega
  have nc : (n : Int) ≤ (c : Int) := by omega
  have c0 : (0 : Int) ≤ (c : Int) := by omega
  have AL : Hid (Below w.heap.size w (w.alloc (.cells #[.int .i64 k, .int .i64 i, .int .i64 j, .bool f, .string s] 28))) := (Below.refl _ w).alloc (Nat.le_refl _) _
  obtain ⟨fr, efr⟩ : ∃ fr, fr = front n i := ⟨_, rfl⟩
  obtain ⟨th, eth⟩ : ∃ th, th = there n i := ⟨_, rfl⟩
  have RP : Hid (∀ W, Calls Try.prog 23 #[.int .i64 (n : Int), .int .i64 i] W fun e w' => e = .returned (.tuple #[.int .i64 fr, .bool th]) ∧ w' = W) := fun W => by
    have := rplace_any W n (by omega) i i0 i1
    rwa [← efr, ← eth] at this
  subst ei
  have m0 : (0 : Int) ≤ (m : Int) := by omega
  have m1 : (m : Int) ≤ (n : Int) := by omega
  have m2 : (m : Int) ≤ (c : Int) := by omega
  have HM : Hid (m ≤ l.length ∧ m ≤ n) := by show m ≤ l.length ∧ m ≤ n; omega
  have PU : Hid (Calls Try.prog 19 #[.pointer (some ⟨q, 0, none⟩), .int .i64 (m : Int), .string s] (w.alloc (.cells #[.int .i64 k, .int .i64 (m : Int), .int .i64 j, .bool f, .string s] 28)) fun e w' => e = .returned (.bool true) ∧ PS w0 w' q (insAt l m s) l g o c ∧ ∀ b, w.heap.size ≤ b → b < (w.alloc (.cells #[.int .i64 k, .int .i64 (m : Int), .int .i64 j, .bool f, .string s] 28)).heap.size → w'.heap[b]? = (w.alloc (.cells #[.int .i64 k, .int .i64 (m : Int), .int .i64 j, .bool f, .string s] 28)).heap[b]?) := ps_call PP.out AL.out fun R fi fl => by
    have := ins_any _ q R fi (by rw [fi.num, fl]; have := LN.out; omega) (m : Int) i0 i1 s (by omega)
    rw [fl, show fits l.length (m : Int) = true from decide_eq_true ⟨by omega, by have := HM.out; omega⟩, if_pos rfl, Int.toNat_natCast] at this
    exact this
  clear P en efr eth hm i0 i1 j0 j1
  go_enter Try.func9, Try.ntmps9
  go_wp2_with fail
  go_at_call 23
  with_reducible refine (RP.out _).mono ?_
  rintro e w1 ⟨rfl, rfl⟩
  go_wp2_with fail
  go_at_call 19
  with_reducible refine PU.out.mono ?_
  rintro e w2 ⟨rfl, p2, kb⟩
  have P2 := Lib.hid p2
  clear p2 PU RP PP AL
  have cb : ∀ mm, mm < 5 → w2.cell? ⟨w.heap.size, mm, none⟩ = (#[.int .i64 k, .int .i64 (m : Int), .int .i64 j, .bool f, .string s] : Array Value)[mm]? := fun mm _ => by
    have e := kb w.heap.size (Nat.le_refl _) (by simp)
    rw [World.cell?_of_block e, World.cell?_alloc_new]
  have cb0 : w2.cell? ⟨w.heap.size, 0, none⟩ = some (.int .i64 k) := cb 0 (by decide)
  have cb1 : w2.cell? ⟨w.heap.size, 1, none⟩ = some (.int .i64 (m : Int)) := cb 1 (by decide)
  have cb2 : w2.cell? ⟨w.heap.size, 2, none⟩ = some (.int .i64 j) := cb 2 (by decide)
  have cb3 : w2.cell? ⟨w.heap.size, 3, none⟩ = some (.bool f) := cb 3 (by decide)
  have cb4 : w2.cell? ⟨w.heap.size, 4, none⟩ = some (.string s) := cb 4 (by decide)
  have kz : w.heap.size < w2.heap.size := by
    obtain ⟨-, e, -⟩ := And.intro trivial (And.intro (kb w.heap.size (Nat.le_refl _) (by simp)) trivial)
    rcases Nat.lt_or_ge w.heap.size w2.heap.size with x | x
    · exact x
    · rw [Array.getElem?_eq_none x, heap_alloc_new] at e; cases e
  clear cb kb
  have S0 : Hid (Below w2.heap.size w2 w2 ∧ w2.cell? ⟨w.heap.size, 1, none⟩ = some (.int .i64 (m : Int)) ∧ w2.cell? ⟨w.heap.size, 4, none⟩ = some (.string s)) := ⟨Below.refl _ _, cb1, cb4⟩
  have KP : Hid (∀ W, Below w2.heap.size w2 W → Below w2.heap.size w2 W ∧ W.cell? ⟨w.heap.size, 1, none⟩ = some (.int .i64 (m : Int)) ∧ W.cell? ⟨w.heap.size, 4, none⟩ = some (.string s)) := fun W hb => ⟨hb, by rw [hb.cell (p := ⟨w.heap.size, 1, none⟩) kz]; exact S0.out.2.1, by rw [hb.cell (p := ⟨w.heap.size, 4, none⟩) kz]; exact S0.out.2.2⟩
  obtain ⟨o', eo, it'⟩ := P2.out.tx.tail m (by have := HM.out; omega)
  have IT' := Lib.hid it'
  clear it'
  have IT0 := Lib.hid (P2.out.tx.part 0 m (by have := HM.out; omega))
  go_wp2_with fail
  go_region_held3 (fun W => Below w2.heap.size w2 W ∧ W.cell? ⟨w.heap.size, 1, none⟩ = some (.int .i64 (m : Int)) ∧ W.cell? ⟨w.heap.size, 4, none⟩ = some (.string s)) (first
    | exact KP.out _ (Below.refl _ _)
    | exact KP.out _ (Below.refl _ _).drew
    | exact KP.out _ (by assumption)
    | exact KP.out _ (Below.drew (by assumption))
    | exact KP.out _ ((Below.refl _ _).alloc (Nat.le_refl _) _)
    | exact KP.out _ ((Below.refl _ _).alloc (Nat.le_refl _) _).drew
    | exact KP.out _ (((Below.refl _ _).alloc (Nat.le_refl _) _).alloc (by simp) _)
    | exact KP.out _ (((Below.refl _ _).alloc (Nat.le_refl _) _).alloc (by simp) _).drew
    | exact KP.out _ (below_alloc (by assumption) _)
    | exact KP.out _ (below_alloc (by assumption) _).drew
    | assumption) (first
    | (refine step_mine (v := .slice (some ⟨_, 0, none⟩) 0 0) rfl (.tmp 147) (.tmp 151) rfl rfl (mine_none (base := w2.heap.size) _ (by simp) (by first | exact heap1 _ _ | exact heap1_d _ _ | exact heap2_old _ _ _ | exact heap2_old_d _ _ _ | exact heap2_new _ _ _ | exact heap2_new_d _ _ _)) (some ⟨g, o, none⟩) m c rfl (l := (l.drop 0).take m) (by rw [List.drop_zero, List.length_take]; have := HM.out; omega) (IT0.out.keep (by first | assumption | exact Below.refl _ _ | exact (Below.refl _ _).drew | exact (Below.refl _ _).alloc (Nat.le_refl _) _ | exact ((Below.refl _ _).alloc (Nat.le_refl _) _).drew | exact ((Below.refl _ _).alloc (Nat.le_refl _) _).alloc (by simp) _ | exact (((Below.refl _ _).alloc (Nat.le_refl _) _).alloc (by simp) _).drew | exact below_alloc (by assumption) _ | exact (below_alloc (by assumption) _).drew : Below w2.heap.size w2 _)) (by rw [List.drop_zero, List.length_take]; have := HM.out; have := LN.out; simp only [List.length_nil]; omega) ((by first | assumption | exact Below.refl _ _ | exact (Below.refl _ _).drew | exact (Below.refl _ _).alloc (Nat.le_refl _) _ | exact ((Below.refl _ _).alloc (Nat.le_refl _) _).drew | exact ((Below.refl _ _).alloc (Nat.le_refl _) _).alloc (by simp) _ | exact (((Below.refl _ _).alloc (Nat.le_refl _) _).alloc (by simp) _).drew | exact below_alloc (by assumption) _ | exact (below_alloc (by assumption) _).drew : Below w2.heap.size w2 _)).size ?_; intro v3 w3 m3 b3' k3; have b3 : Below w2.heap.size w2 w3 := ((by first | assumption | exact Below.refl _ _ | exact (Below.refl _ _).drew | exact (Below.refl _ _).alloc (Nat.le_refl _) _ | exact ((Below.refl _ _).alloc (Nat.le_refl _) _).drew | exact ((Below.refl _ _).alloc (Nat.le_refl _) _).alloc (by simp) _ | exact (((Below.refl _ _).alloc (Nat.le_refl _) _).alloc (by simp) _).drew | exact below_alloc (by assumption) _ | exact (below_alloc (by assumption) _).drew : Below w2.heap.size w2 _)).trans b3')
    | (refine step_mine rfl (.tmp 152) (.tmp 155) rfl rfl (k := [] ++ (l.drop 0).take m) (l := [s]) (by first | exact m3 | exact m3.keep ((Below.refl _ _).alloc (Nat.le_refl _) _) | exact m3.keep ((Below.refl _ _).alloc (Nat.le_refl _) _).drew : Mine w2.heap.size _ v3 _) (some ⟨_, 0, none⟩) 1 1 rfl rfl (by first | exact tx_one_at _ s (by first | exact heap1 _ _ | exact heap1_d _ _ | exact heap2_old _ _ _ | exact heap2_old_d _ _ _ | exact heap2_new _ _ _ | exact heap2_new_d _ _ _) | exact tx_one_at _ s (keep_old k3 rfl) | exact tx_one_at _ s (keep_new k3 rfl)) (by rw [List.drop_zero, List.nil_append, List.length_take]; have := HM.out; have := LN.out; simp only [List.length_cons, List.length_nil]; omega) ((by first | assumption | exact Below.refl _ _ | exact (Below.refl _ _).drew | exact (Below.refl _ _).alloc (Nat.le_refl _) _ | exact ((Below.refl _ _).alloc (Nat.le_refl _) _).drew | exact ((Below.refl _ _).alloc (Nat.le_refl _) _).alloc (by simp) _ | exact (((Below.refl _ _).alloc (Nat.le_refl _) _).alloc (by simp) _).drew | exact below_alloc (by assumption) _ | exact (below_alloc (by assumption) _).drew : Below w2.heap.size w2 _)).size ?_; intro v4 w4 m4 b4' k4; have b4 : Below w2.heap.size w2 w4 := ((by first | assumption | exact Below.refl _ _ | exact (Below.refl _ _).drew | exact (Below.refl _ _).alloc (Nat.le_refl _) _ | exact ((Below.refl _ _).alloc (Nat.le_refl _) _).drew | exact ((Below.refl _ _).alloc (Nat.le_refl _) _).alloc (by simp) _ | exact (((Below.refl _ _).alloc (Nat.le_refl _) _).alloc (by simp) _).drew | exact below_alloc (by assumption) _ | exact (below_alloc (by assumption) _).drew : Below w2.heap.size w2 _)).trans b4')
    | (refine step_mine rfl (.tmp 156) (.tmp 160) rfl rfl (l := l.drop m) m4 (some ⟨g, o', none⟩) (n - m) (c - m) rfl (by rw [List.length_drop]; have := LN.out; omega) (IT'.out.keep b4) (by rw [List.drop_zero, List.nil_append, List.length_append, List.length_take, List.length_drop]; have := HM.out; have := LN.out; simp only [List.length_cons, List.length_nil]; omega) b4.size ?_; intro v5 w5 m5 b5' k5; have b5 : Below w2.heap.size w2 w5 := b4.trans b5'))
  all_goals rw [List.nil_append, List.drop_zero, List.append_assoc, List.singleton_append] at m5
  all_goals (obtain ⟨g5, c5, rfl, it5, ge5, lt5⟩ := m5.slice)
  all_goals (have M5 := Lib.hid (P2.out.other b5 it5 ge5 lt5))
  all_goals clear m3 m4 m5 b3 b4 b3' b4' b5 b5' k3 k4 k5 it5 KP S0 IT' IT0 eo
  all_goals go_wp2_with fail
  all_goals go_ret2
  all_goals exact ⟨insAt l m s, g5, 0, c5, by first | rfl | simp, M5.out, by rw [insAt_len _ _ _ HM.out.1]; exact Nat.le_refl _⟩

set_option maxRecDepth 20000 in
set_option maxHeartbeats 4000000 in
theorem ins_5_low (w0 w : World) (q g o c : Nat) (l : List ByteArray) (P : PS w0 w q l l g o c) (k i j : Int) (f : Bool) (s : ByteArray) (hk : (wrap64 (k.tmod 8 + 8)).tmod 8 = 5) (i0 : -9223372036854775808 ≤ i) (i1 : i ≤ 9223372036854775807) (j0 : -9223372036854775808 ≤ j) (j1 : j ≤ 9223372036854775807) (hs : s.size ≤ 20) (hl : l.length ≤ 300) (lo : i < 0) :
    Calls Try.prog 9 #[.pointer (some ⟨q, 0, none⟩), .slice (some ⟨g, o, none⟩) l.length c, .agg #[.int .i64 k, .int .i64 i, .int .i64 j, .bool f, .string s]] w (Played w0 q l) := by
  have PP := Lib.hid P
  have lc := P.tx.2.1
  have c9 := P.tx.2.2.1
  unfold maxLen at c9
  have bw := P.bel.size
  obtain ⟨n, en⟩ : ∃ n, n = l.length := ⟨_, rfl⟩
  rw [← en] at lc hl ⊢
  have LN := Lib.hid en
  have n0 : (0 : Int) ≤ (n : Int) := by omega
  have n9 : (n : Int) ≤ 300 := by omega
  have nc : (n : Int) ≤ (c : Int) := by omega
  have c0 : (0 : Int) ≤ (c : Int) := by omega
  have AL : Hid (Below w.heap.size w (w.alloc (.cells #[.int .i64 k, .int .i64 i, .int .i64 j, .bool f, .string s] 28))) := (Below.refl _ w).alloc (Nat.le_refl _) _
  obtain ⟨fr, efr⟩ : ∃ fr, fr = front n i := ⟨_, rfl⟩
  obtain ⟨th, eth⟩ : ∃ th, th = there n i := ⟨_, rfl⟩
  have RP : Hid (∀ W, Calls Try.prog 23 #[.int .i64 (n : Int), .int .i64 i] W fun e w' => e = .returned (.tuple #[.int .i64 fr, .bool th]) ∧ w' = W) := fun W => by
    have := rplace_any W n (by omega) i i0 i1
    rwa [← efr, ← eth] at this
  have lo' : ¬ (0 ≤ i) := by omega
  have PU : Hid (Calls Try.prog 19 #[.pointer (some ⟨q, 0, none⟩), .int .i64 i, .string s] (w.alloc (.cells #[.int .i64 k, .int .i64 i, .int .i64 j, .bool f, .string s] 28)) fun e w' => e = .returned (.bool false) ∧ PS w0 w' q l l g o c ∧ ∀ b, w.heap.size ≤ b → b < (w.alloc (.cells #[.int .i64 k, .int .i64 i, .int .i64 j, .bool f, .string s] 28)).heap.size → w'.heap[b]? = (w.alloc (.cells #[.int .i64 k, .int .i64 i, .int .i64 j, .bool f, .string s] 28)).heap[b]?) := ps_call PP.out AL.out fun R fi fl => by
    have := ins_any _ q R fi (by rw [fi.num, fl]; have := LN.out; omega) i i0 i1 s (by omega)
    rw [fl, show fits l.length i = false from decide_eq_false fun e => by omega, if_neg (by simp)] at this
    exact this
  clear P en efr eth i0 i1 j0 j1 lo'
  go_enter Try.func9, Try.ntmps9
  go_wp2_with fail
  go_at_call 23
  with_reducible refine (RP.out _).mono ?_
  rintro e w1 ⟨rfl, rfl⟩
  go_wp2_with fail
  go_at_call 19
  with_reducible refine PU.out.mono ?_
  rintro e w2 ⟨rfl, p2, kb⟩
  have P2 := Lib.hid p2
  clear p2 PU RP PP AL
  have cb : ∀ m, m < 5 → w2.cell? ⟨w.heap.size, m, none⟩ = (#[.int .i64 k, .int .i64 i, .int .i64 j, .bool f, .string s] : Array Value)[m]? := fun m _ => by
    have e := kb w.heap.size (Nat.le_refl _) (by simp)
    rw [World.cell?_of_block e, World.cell?_alloc_new]
  have cb0 : w2.cell? ⟨w.heap.size, 0, none⟩ = some (.int .i64 k) := cb 0 (by decide)
  have cb1 : w2.cell? ⟨w.heap.size, 1, none⟩ = some (.int .i64 i) := cb 1 (by decide)
  have cb2 : w2.cell? ⟨w.heap.size, 2, none⟩ = some (.int .i64 j) := cb 2 (by decide)
  have cb3 : w2.cell? ⟨w.heap.size, 3, none⟩ = some (.bool f) := cb 3 (by decide)
  have cb4 : w2.cell? ⟨w.heap.size, 4, none⟩ = some (.string s) := cb 4 (by decide)
  have kz : w.heap.size < w2.heap.size := by
    obtain ⟨-, e, -⟩ := And.intro trivial (And.intro (kb w.heap.size (Nat.le_refl _) (by simp)) trivial)
    rcases Nat.lt_or_ge w.heap.size w2.heap.size with x | x
    · exact x
    · rw [Array.getElem?_eq_none x, heap_alloc_new] at e; cases e
  clear cb kb
  go_wp2_with fail
  go_ret2
  rw [LN.out]
  exact ⟨l, g, o, c, by first | rfl | simp, P2.out, by simp⟩

set_option maxRecDepth 20000 in
set_option maxHeartbeats 4000000 in
theorem ins_5_high (w0 w : World) (q g o c : Nat) (l : List ByteArray) (P : PS w0 w q l l g o c) (k i j : Int) (f : Bool) (s : ByteArray) (hk : (wrap64 (k.tmod 8 + 8)).tmod 8 = 5) (i0 : -9223372036854775808 ≤ i) (i1 : i ≤ 9223372036854775807) (j0 : -9223372036854775808 ≤ j) (j1 : j ≤ 9223372036854775807) (hs : s.size ≤ 20) (hl : l.length ≤ 300) (hi : (l.length : Int) < i) :
    Calls Try.prog 9 #[.pointer (some ⟨q, 0, none⟩), .slice (some ⟨g, o, none⟩) l.length c, .agg #[.int .i64 k, .int .i64 i, .int .i64 j, .bool f, .string s]] w (Played w0 q l) := by
  have PP := Lib.hid P
  have lc := P.tx.2.1
  have c9 := P.tx.2.2.1
  unfold maxLen at c9
  have bw := P.bel.size
  obtain ⟨n, en⟩ : ∃ n, n = l.length := ⟨_, rfl⟩
  rw [← en] at lc hl ⊢
  have LN := Lib.hid en
  have n0 : (0 : Int) ≤ (n : Int) := by omega
  have n9 : (n : Int) ≤ 300 := by omega
  have nc : (n : Int) ≤ (c : Int) := by omega
  have c0 : (0 : Int) ≤ (c : Int) := by omega
  have AL : Hid (Below w.heap.size w (w.alloc (.cells #[.int .i64 k, .int .i64 i, .int .i64 j, .bool f, .string s] 28))) := (Below.refl _ w).alloc (Nat.le_refl _) _
  obtain ⟨fr, efr⟩ : ∃ fr, fr = front n i := ⟨_, rfl⟩
  obtain ⟨th, eth⟩ : ∃ th, th = there n i := ⟨_, rfl⟩
  have RP : Hid (∀ W, Calls Try.prog 23 #[.int .i64 (n : Int), .int .i64 i] W fun e w' => e = .returned (.tuple #[.int .i64 fr, .bool th]) ∧ w' = W) := fun W => by
    have := rplace_any W n (by omega) i i0 i1
    rwa [← efr, ← eth] at this
  have hi' : (n : Int) < i := by omega
  have hn : 0 ≤ i := by omega
  have hj : ¬ (i < 0) := by omega
  have PU : Hid (Calls Try.prog 19 #[.pointer (some ⟨q, 0, none⟩), .int .i64 i, .string s] (w.alloc (.cells #[.int .i64 k, .int .i64 i, .int .i64 j, .bool f, .string s] 28)) fun e w' => e = .returned (.bool false) ∧ PS w0 w' q l l g o c ∧ ∀ b, w.heap.size ≤ b → b < (w.alloc (.cells #[.int .i64 k, .int .i64 i, .int .i64 j, .bool f, .string s] 28)).heap.size → w'.heap[b]? = (w.alloc (.cells #[.int .i64 k, .int .i64 i, .int .i64 j, .bool f, .string s] 28)).heap[b]?) := ps_call PP.out AL.out fun R fi fl => by
    have := ins_any _ q R fi (by rw [fi.num, fl]; have := LN.out; omega) i i0 i1 s (by omega)
    rw [fl, show fits l.length i = false from decide_eq_false fun e => by omega, if_neg (by simp)] at this
    exact this
  clear P en efr eth i0 i1 j0 j1 hi
  go_enter Try.func9, Try.ntmps9
  go_wp2_with fail
  go_at_call 23
  with_reducible refine (RP.out _).mono ?_
  rintro e w1 ⟨rfl, rfl⟩
  go_wp2_with fail
  go_at_call 19
  with_reducible refine PU.out.mono ?_
  rintro e w2 ⟨rfl, p2, kb⟩
  have P2 := Lib.hid p2
  clear p2 PU RP PP AL
  have cb : ∀ m, m < 5 → w2.cell? ⟨w.heap.size, m, none⟩ = (#[.int .i64 k, .int .i64 i, .int .i64 j, .bool f, .string s] : Array Value)[m]? := fun m _ => by
    have e := kb w.heap.size (Nat.le_refl _) (by simp)
    rw [World.cell?_of_block e, World.cell?_alloc_new]
  have cb0 : w2.cell? ⟨w.heap.size, 0, none⟩ = some (.int .i64 k) := cb 0 (by decide)
  have cb1 : w2.cell? ⟨w.heap.size, 1, none⟩ = some (.int .i64 i) := cb 1 (by decide)
  have cb2 : w2.cell? ⟨w.heap.size, 2, none⟩ = some (.int .i64 j) := cb 2 (by decide)
  have cb3 : w2.cell? ⟨w.heap.size, 3, none⟩ = some (.bool f) := cb 3 (by decide)
  have cb4 : w2.cell? ⟨w.heap.size, 4, none⟩ = some (.string s) := cb 4 (by decide)
  have kz : w.heap.size < w2.heap.size := by
    obtain ⟨-, e, -⟩ := And.intro trivial (And.intro (kb w.heap.size (Nat.le_refl _) (by simp)) trivial)
    rcases Nat.lt_or_ge w.heap.size w2.heap.size with x | x
    · exact x
    · rw [Array.getElem?_eq_none x, heap_alloc_new] at e; cases e
  clear cb kb
  go_wp2_with fail
  go_ret2
  rw [LN.out]
  exact ⟨l, g, o, c, by first | rfl | simp, P2.out, by simp⟩

end Go.Proofs.Yteghokakjonblaa
