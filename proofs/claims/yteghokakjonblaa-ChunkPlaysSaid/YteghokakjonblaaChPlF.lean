/- The law's play: Remove. -/
import Derived.Test.YteghokakjonblaaChPlA
import Derived.Test.YteghokakjonblaaChRefPl
import Derived.Deep.RegionHeld3
namespace Go.Proofs.Yteghokakjonblaa
open Go.RowKit Go.Lib
set_option linter.unusedVariables false
set_option maxRecDepth 20000 in
set_option maxHeartbeats 4000000 in
theorem rem_in (w0 w : World) (q g o c : Nat) (l : List ByteArray) (P : PS w0 w q l l g o c) (k i j : Int) (f : Bool) (s : ByteArray) (hk : (wrap64 (k.tmod 8 + 8)).tmod 8 = 6) (i0 : -9223372036854775808 ≤ i) (i1 : i ≤ 9223372036854775807) (j0 : -9223372036854775808 ≤ j) (j1 : j ≤ 9223372036854775807) (hs : s.size ≤ 20) (hl : l.length ≤ 300) (hth : there l.length i = true) :
    Calls Try.prog 9 #[.pointer (some ⟨q, 0, none⟩), .slice (some ⟨g, o, none⟩) l.length c, .agg #[.int .i64 k, .int .i64 i, .int .i64 j, .bool f, .string s]] w (Played w0 q l) := by
  have PP := Lib.hid P
  have lc := P.tx.2.1
  have c9 := P.tx.2.2.1
  unfold maxLen at c9
  have bw := P.bel.size
  obtain ⟨n, en⟩ : ∃ n, n = l.length := ⟨_, rfl⟩
  rw [← en] at lc hl ⊢
  have LN := Lib.hid en
  have n0 : (0 : Int) ≤ (n : Int) := by omega
  have n9 : (n : Int) ≤ 300 := by omega
  have nc : (n : Int) ≤ (c : Int) := by omega
  have c0 : (0 : Int) ≤ (c : Int) := by omega
  have AL : Hid (Below w.heap.size w (w.alloc (.cells #[.int .i64 k, .int .i64 i, .int .i64 j, .bool f, .string s] 28))) := (Below.refl _ w).alloc (Nat.le_refl _) _
  obtain ⟨m, em, hm⟩ := there_is hth
  have RP : Hid (∀ W, Calls Try.prog 23 #[.int .i64 (n : Int), .int .i64 i] W fun e w' => e = .returned (.tuple #[.int .i64 (m : Int), .bool true]) ∧ w' = W) := fun W => by
    have := rplace_any W n (by omega) i i0 i1
    rwa [show front n i = (m : Int) by rw [en]; exact em, show there n i = true by rw [en]; exact hth] at this
  have m0 : (0 : Int) ≤ (m : Int) := by omega
  have m1 : (m : Int) < (n : Int) := by omega
  have m2 : (m : Int) ≤ (n : Int) := by omega
  have m3 : (m : Int) ≤ (c : Int) := by omega
  have m4 : (m : Int) + 1 ≤ (n : Int) := by omega
  have m5 : (m : Int) ≤ 300 := by omega
  have m6 : (0 : Int) ≤ (m : Int) + 1 := by omega
  have m7 : (m : Int) + 1 ≤ (c : Int) := by omega
  have m8 : (m : Int) < (l.length : Int) := by omega
  have m9 : m < l.length := hm
  have HM : Hid (m < l.length ∧ m < n) := by show m < l.length ∧ m < n; omega
  obtain ⟨x, ex⟩ : ∃ x, l[m]? = some x := ⟨l[m], List.getElem?_eq_getElem hm⟩
  have wm : IntKind.i64.wrap ((m : Int) + 1) = (m : Int) + 1 := by rw [IntKind.wrap_i64]; omega
  have PU : Hid (Calls Try.prog 20 #[.pointer (some ⟨q, 0, none⟩), .int .i64 i] (w.alloc (.cells #[.int .i64 k, .int .i64 i, .int .i64 j, .bool f, .string s] 28)) fun e w' => e = .returned (.tuple #[.string x, .bool true]) ∧ PS w0 w' q (l.eraseIdx m) l g o c ∧ ∀ b, w.heap.size ≤ b → b < (w.alloc (.cells #[.int .i64 k, .int .i64 i, .int .i64 j, .bool f, .string s] 28)).heap.size → w'.heap[b]? = (w.alloc (.cells #[.int .i64 k, .int .i64 i, .int .i64 j, .bool f, .string s] 28)).heap[b]?) := ps_call PP.out AL.out fun R fi fl => by
    have := rem_any _ q R fi (by rw [fi.num, fl]; have := LN.out; omega) i i0 i1
    rw [fl, hth] at this
    unfold atOf remOf at this
    rw [if_pos hth, if_pos hth, em, Int.toNat_natCast, ex] at this
    exact this
  have EX := Lib.hid ex
  clear P en em hth hm ex i0 i1 j0 j1
  go_enter Try.func9, Try.ntmps9
  go_wp2_with fail
  go_at_call 23
  with_reducible refine (RP.out _).mono ?_
  rintro e w1 ⟨rfl, rfl⟩
  go_wp2_with fail
  go_at_call 20
  with_reducible refine PU.out.mono ?_
  rintro e w2 ⟨rfl, p2, kb⟩
  have P2 := Lib.hid p2
  clear p2 PU RP PP AL
  have cb : ∀ m, m < 5 → w2.cell? ⟨w.heap.size, m, none⟩ = (#[.int .i64 k, .int .i64 i, .int .i64 j, .bool f, .string s] : Array Value)[m]? := fun m _ => by
    have e := kb w.heap.size (Nat.le_refl _) (by simp)
    rw [World.cell?_of_block e, World.cell?_alloc_new]
  have cb0 : w2.cell? ⟨w.heap.size, 0, none⟩ = some (.int .i64 k) := cb 0 (by decide)
  have cb1 : w2.cell? ⟨w.heap.size, 1, none⟩ = some (.int .i64 i) := cb 1 (by decide)
  have cb2 : w2.cell? ⟨w.heap.size, 2, none⟩ = some (.int .i64 j) := cb 2 (by decide)
  have cb3 : w2.cell? ⟨w.heap.size, 3, none⟩ = some (.bool f) := cb 3 (by decide)
  have cb4 : w2.cell? ⟨w.heap.size, 4, none⟩ = some (.string s) := cb 4 (by decide)
  have kz : w.heap.size < w2.heap.size := by
    obtain ⟨-, e, -⟩ := And.intro trivial (And.intro (kb w.heap.size (Nat.le_refl _) (by simp)) trivial)
    rcases Nat.lt_or_ge w.heap.size w2.heap.size with x | x
    · exact x
    · rw [Array.getElem?_eq_none x, heap_alloc_new] at e; cases e
  clear cb kb
  have lg := P2.out.lt
  have cx : w2.cell? ⟨g, o + m, none⟩ = some (.string x) := by
    obtain ⟨p, e, hc⟩ := P2.out.tx.at_ m HM.out.1
    injection e with e
    subst e
    rw [show (⟨g, o + m, none⟩ : Addr) = (⟨g, o, none⟩ : Addr).add m by rw [Addr.add_lit], hc]
    have := EX.out
    rw [List.getElem?_eq_getElem HM.out.1] at this
    injection this with this
    rw [this]
  have S0 : Hid (Below w2.heap.size w2 w2 ∧ w2.cell? ⟨g, o + m, none⟩ = some (.string x)) := ⟨Below.refl _ _, cx⟩
  have KP : Hid (∀ W, Below w2.heap.size w2 W → Below w2.heap.size w2 W ∧ W.cell? ⟨g, o + m, none⟩ = some (.string x)) := fun W hb => ⟨hb, by rw [hb.cell (p := ⟨g, o + m, none⟩) lg]; exact S0.out.2⟩
  obtain ⟨o', eo, it'⟩ := P2.out.tx.tail (m + 1) (by have := HM.out; omega)
  have IT' := Lib.hid it'
  clear it'
  have IT0 := Lib.hid (P2.out.tx.part 0 m (by have := HM.out; omega))
  go_wp2_with fail
  go_region_held3 (fun W => Below w2.heap.size w2 W ∧ W.cell? ⟨g, o + m, none⟩ = some (.string x)) (first
    | exact KP.out _ (Below.refl _ _)
    | exact KP.out _ (Below.refl _ _).drew
    | exact KP.out _ (by assumption)
    | exact KP.out _ (Below.drew (by assumption))
    | exact KP.out _ ((Below.refl _ _).alloc (Nat.le_refl _) _)
    | exact KP.out _ ((Below.refl _ _).alloc (Nat.le_refl _) _).drew
    | exact KP.out _ (((Below.refl _ _).alloc (Nat.le_refl _) _).alloc (by simp) _)
    | exact KP.out _ (((Below.refl _ _).alloc (Nat.le_refl _) _).alloc (by simp) _).drew
    | exact KP.out _ (below_alloc (by assumption) _)
    | exact KP.out _ (below_alloc (by assumption) _).drew
    | assumption) (first
    | (refine step_mine (v := .slice (some ⟨_, 0, none⟩) 0 0) rfl (.tmp 181) (.tmp 184) rfl rfl (mine_none (base := w2.heap.size) _ (by simp) (by first | exact heap1 _ _ | exact heap1_d _ _ | exact heap2_old _ _ _ | exact heap2_old_d _ _ _ | exact heap2_new _ _ _ | exact heap2_new_d _ _ _)) (some ⟨g, o, none⟩) m c rfl (l := (l.drop 0).take m) (by rw [List.drop_zero, List.length_take]; have := HM.out; omega) (IT0.out.keep (by first | assumption | exact Below.refl _ _ | exact (Below.refl _ _).drew | exact (Below.refl _ _).alloc (Nat.le_refl _) _ | exact ((Below.refl _ _).alloc (Nat.le_refl _) _).drew | exact ((Below.refl _ _).alloc (Nat.le_refl _) _).alloc (by simp) _ | exact (((Below.refl _ _).alloc (Nat.le_refl _) _).alloc (by simp) _).drew | exact below_alloc (by assumption) _ | exact (below_alloc (by assumption) _).drew : Below w2.heap.size w2 _)) (by rw [List.drop_zero, List.length_take]; have := HM.out; have := LN.out; simp only [List.length_nil]; omega) ((by first | assumption | exact Below.refl _ _ | exact (Below.refl _ _).drew | exact (Below.refl _ _).alloc (Nat.le_refl _) _ | exact ((Below.refl _ _).alloc (Nat.le_refl _) _).drew | exact ((Below.refl _ _).alloc (Nat.le_refl _) _).alloc (by simp) _ | exact (((Below.refl _ _).alloc (Nat.le_refl _) _).alloc (by simp) _).drew | exact below_alloc (by assumption) _ | exact (below_alloc (by assumption) _).drew : Below w2.heap.size w2 _)).size ?_; intro v3 w3 m3 b3' k3; have b3 : Below w2.heap.size w2 w3 := ((by first | assumption | exact Below.refl _ _ | exact (Below.refl _ _).drew | exact (Below.refl _ _).alloc (Nat.le_refl _) _ | exact ((Below.refl _ _).alloc (Nat.le_refl _) _).drew | exact ((Below.refl _ _).alloc (Nat.le_refl _) _).alloc (by simp) _ | exact (((Below.refl _ _).alloc (Nat.le_refl _) _).alloc (by simp) _).drew | exact below_alloc (by assumption) _ | exact (below_alloc (by assumption) _).drew : Below w2.heap.size w2 _)).trans b3')
    | (refine step_mine rfl (.tmp 185) (.tmp 189) rfl rfl (l := l.drop (m + 1)) m3 (some ⟨g, o', none⟩) (n - (m + 1)) (c - (m + 1)) rfl (by rw [List.length_drop]; have := LN.out; omega) (IT'.out.keep b3) (by rw [List.drop_zero, List.nil_append, List.length_take, List.length_drop]; have := HM.out; have := LN.out; omega) b3.size ?_; intro v4 w4 m4 b4' k4; have b4 : Below w2.heap.size w2 w4 := b3.trans b4'))
  all_goals rw [List.nil_append, List.drop_zero] at m4
  all_goals (obtain ⟨g4, c4, rfl, it4, ge4, lt4⟩ := m4.slice)
  all_goals (have M4 := Lib.hid (P2.out.other b4 it4 ge4 lt4))
  all_goals clear m3 m4 b3 b4 b3' b4' k3 k4 it4 KP S0 IT' IT0 eo
  all_goals go_wp2_with fail
  all_goals go_ret2
  all_goals rw [List.eraseIdx_eq_take_drop_succ] at M4
  all_goals exact ⟨l.take m ++ l.drop (m + 1), g4, 0, c4, by first | rfl | simp, M4.out, by rw [List.length_append, List.length_take, List.length_drop]; omega⟩

set_option maxRecDepth 20000 in
set_option maxHeartbeats 4000000 in
theorem rem_out (w0 w : World) (q g o c : Nat) (l : List ByteArray) (P : PS w0 w q l l g o c) (k i j : Int) (f : Bool) (s : ByteArray) (hk : (wrap64 (k.tmod 8 + 8)).tmod 8 = 6) (i0 : -9223372036854775808 ≤ i) (i1 : i ≤ 9223372036854775807) (j0 : -9223372036854775808 ≤ j) (j1 : j ≤ 9223372036854775807) (hs : s.size ≤ 20) (hl : l.length ≤ 300) (hth : there l.length i = false) :
    Calls Try.prog 9 #[.pointer (some ⟨q, 0, none⟩), .slice (some ⟨g, o, none⟩) l.length c, .agg #[.int .i64 k, .int .i64 i, .int .i64 j, .bool f, .string s]] w (Played w0 q l) := by
  have PP := Lib.hid P
  have lc := P.tx.2.1
  have c9 := P.tx.2.2.1
  unfold maxLen at c9
  have bw := P.bel.size
  obtain ⟨n, en⟩ : ∃ n, n = l.length := ⟨_, rfl⟩
  rw [← en] at lc hl ⊢
  have LN := Lib.hid en
  have n0 : (0 : Int) ≤ (n : Int) := by omega
  have n9 : (n : Int) ≤ 300 := by omega
  have nc : (n : Int) ≤ (c : Int) := by omega
  have c0 : (0 : Int) ≤ (c : Int) := by omega
  have AL : Hid (Below w.heap.size w (w.alloc (.cells #[.int .i64 k, .int .i64 i, .int .i64 j, .bool f, .string s] 28))) := (Below.refl _ w).alloc (Nat.le_refl _) _
  obtain ⟨fr, efr⟩ : ∃ fr, fr = front n i := ⟨_, rfl⟩
  have RP : Hid (∀ W, Calls Try.prog 23 #[.int .i64 (n : Int), .int .i64 i] W fun e w' => e = .returned (.tuple #[.int .i64 fr, .bool false]) ∧ w' = W) := fun W => by
    have := rplace_any W n (by omega) i i0 i1
    rwa [← efr, show there n i = false by rw [en]; exact hth] at this
  have PU : Hid (Calls Try.prog 20 #[.pointer (some ⟨q, 0, none⟩), .int .i64 i] (w.alloc (.cells #[.int .i64 k, .int .i64 i, .int .i64 j, .bool f, .string s] 28)) fun e w' => e = .returned (.tuple #[.string ⟨#[]⟩, .bool false]) ∧ PS w0 w' q l l g o c ∧ ∀ b, w.heap.size ≤ b → b < (w.alloc (.cells #[.int .i64 k, .int .i64 i, .int .i64 j, .bool f, .string s] 28)).heap.size → w'.heap[b]? = (w.alloc (.cells #[.int .i64 k, .int .i64 i, .int .i64 j, .bool f, .string s] 28)).heap[b]?) := ps_call PP.out AL.out fun R fi fl => by
    have := rem_any _ q R fi (by rw [fi.num, fl]; have := LN.out; omega) i i0 i1
    rw [fl, hth] at this
    unfold atOf remOf at this
    rw [if_neg (by rw [hth]; simp), if_neg (by rw [hth]; simp)] at this
    exact this
  clear P en efr hth i0 i1 j0 j1
  go_enter Try.func9, Try.ntmps9
  go_wp2_with fail
  go_at_call 23
  with_reducible refine (RP.out _).mono ?_
  rintro e w1 ⟨rfl, rfl⟩
  go_wp2_with fail
  go_at_call 20
  with_reducible refine PU.out.mono ?_
  rintro e w2 ⟨rfl, p2, kb⟩
  have P2 := Lib.hid p2
  clear p2 PU RP PP AL
  have cb : ∀ m, m < 5 → w2.cell? ⟨w.heap.size, m, none⟩ = (#[.int .i64 k, .int .i64 i, .int .i64 j, .bool f, .string s] : Array Value)[m]? := fun m _ => by
    have e := kb w.heap.size (Nat.le_refl _) (by simp)
    rw [World.cell?_of_block e, World.cell?_alloc_new]
  have cb0 : w2.cell? ⟨w.heap.size, 0, none⟩ = some (.int .i64 k) := cb 0 (by decide)
  have cb1 : w2.cell? ⟨w.heap.size, 1, none⟩ = some (.int .i64 i) := cb 1 (by decide)
  have cb2 : w2.cell? ⟨w.heap.size, 2, none⟩ = some (.int .i64 j) := cb 2 (by decide)
  have cb3 : w2.cell? ⟨w.heap.size, 3, none⟩ = some (.bool f) := cb 3 (by decide)
  have cb4 : w2.cell? ⟨w.heap.size, 4, none⟩ = some (.string s) := cb 4 (by decide)
  have kz : w.heap.size < w2.heap.size := by
    obtain ⟨-, e, -⟩ := And.intro trivial (And.intro (kb w.heap.size (Nat.le_refl _) (by simp)) trivial)
    rcases Nat.lt_or_ge w.heap.size w2.heap.size with x | x
    · exact x
    · rw [Array.getElem?_eq_none x, heap_alloc_new] at e; cases e
  clear cb kb
  go_wp2_with fail
  go_ret2
  rw [LN.out]
  exact ⟨l, g, o, c, by first | rfl | simp, P2.out, by simp⟩

end Go.Proofs.Yteghokakjonblaa
