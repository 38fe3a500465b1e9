/- The law's play: Slice. -/
import Derived.Test.YteghokakjonblaaChPlA
import Derived.Test.YteghokakjonblaaChRefPl
import Derived.Deep.RegionHeld3
namespace Go.Proofs.Yteghokakjonblaa
open Go.RowKit Go.Lib
set_option linter.unusedVariables false
set_option maxRecDepth 20000 in
set_option maxHeartbeats 4000000 in
theorem slc_in (w0 w : World) (q g o c : Nat) (l : List ByteArray) (P : PS w0 w q l l g o c) (k i j : Int) (f : Bool) (s : ByteArray) (hk : (wrap64 (k.tmod 8 + 8)).tmod 8 = 7) (i0 : -9223372036854775808 ≤ i) (i1 : i ≤ 9223372036854775807) (j0 : -9223372036854775808 ≤ j) (j1 : j ≤ 9223372036854775807) (hs : s.size ≤ 20) (hl : l.length ≤ 300) (hth : there l.length i = true) :
    Calls Try.prog 9 #[.pointer (some ⟨q, 0, none⟩), .slice (some ⟨g, o, none⟩) l.length c, .agg #[.int .i64 k, .int .i64 i, .int .i64 j, .bool f, .string s]] w (Played w0 q l) := by
  have PP := Lib.hid P
  have lc := P.tx.2.1
  have c9 := P.tx.2.2.1
  unfold maxLen at c9
  have bw := P.bel.size
  obtain ⟨n, en⟩ : ∃ n, n = l.length := ⟨_, rfl⟩
  rw [← en] at lc hl ⊢
  have LN := Lib.hid en
  have n0 : (0 : Int) ≤ (n : Int) := by omega
  have n9 : (n : Int) ≤ 300 := by omega
  have nc : (n : Int) ≤ (c : Int) := by omega
  have c0 : (0 : Int) ≤ (c : Int) := by omega
  have AL : Hid (Below w.heap.size w (w.alloc (.cells #[.int .i64 k, .int .i64 i, .int .i64 j, .bool f, .string s] 28))) := (Below.refl _ w).alloc (Nat.le_refl _) _
  obtain ⟨m, em, hm⟩ := there_is hth
  have RP : Hid (∀ W, Calls Try.prog 23 #[.int .i64 (n : Int), .int .i64 i] W fun e w' => e = .returned (.tuple #[.int .i64 (m : Int), .bool true]) ∧ w' = W) := fun W => by
    have := rplace_any W n (by omega) i i0 i1
    rwa [show front n i = (m : Int) by rw [en]; exact em, show there n i = true by rw [en]; exact hth] at this
  have m0 : (0 : Int) ≤ (m : Int) := by omega
  have m1 : (m : Int) < (n : Int) := by omega
  have m2 : (m : Int) ≤ (n : Int) := by omega
  have m3 : (m : Int) ≤ (c : Int) := by omega
  have m4 : (m : Int) + 1 ≤ (n : Int) := by omega
  have m5 : (m : Int) ≤ 300 := by omega
  have m6 : (0 : Int) ≤ (m : Int) + 1 := by omega
  have m7 : (m : Int) + 1 ≤ (c : Int) := by omega
  have m8 : (m : Int) < (l.length : Int) := by omega
  have m9 : m < l.length := hm
  have HM : Hid (m < l.length ∧ m < n) := by show m < l.length ∧ m < n; omega
  obtain ⟨x, ex⟩ : ∃ x, l[m]? = some x := ⟨l[m], List.getElem?_eq_getElem hm⟩
  obtain ⟨a, ea⟩ : ∃ a, a = (span n i j).1 := ⟨_, rfl⟩
  obtain ⟨b, eb⟩ : ∃ b, b = (span n i j).2 := ⟨_, rfl⟩
  have ab := span_le n i j
  rw [← ea, ← eb] at ab
  have a0 : (0 : Int) ≤ (a : Int) := by omega
  have a1 : (a : Int) ≤ (b : Int) := by omega
  have b1 : (b : Int) ≤ (n : Int) := by omega
  have b2 : (b : Int) ≤ (c : Int) := by omega
  have b0 : (0 : Int) ≤ (b : Int) := by omega
  have RS : Hid (∀ W, Calls Try.prog 24 #[.int .i64 (n : Int), .int .i64 i, .int .i64 j] W fun e w' => e = .returned (.tuple #[.int .i64 (a : Int), .int .i64 (b : Int)]) ∧ w' = W) := fun W => by
    have := rplaces_any W n (by omega) i j i0 i1 j0 j1
    rwa [← ea, ← eb] at this
  obtain ⟨x1, hx1⟩ : ∃ x1 : List ByteArray, x1 = (l.drop a).take (b - a) := ⟨_, rfl⟩
  have cu : cut l i j = x1 := by rw [cut_span, hx1, ea, eb, en]
  have x1l : x1.length = b - a := by rw [hx1, List.length_take, List.length_drop]; omega
  have AT : Hid (∀ W, PS w0 W q l l g o c → Calls Try.prog 21 #[.pointer (some ⟨q, 0, none⟩), .int .i64 i] W fun e w' => e = .returned (.tuple #[.string x, .bool true]) ∧ Below W.heap.size W w') := fun W p => by
    have := f_at p.fresh (by omega) i i0 i1
    rw [hth] at this
    unfold atOf at this
    rw [if_pos hth, em, Int.toNat_natCast, ex] at this
    exact this
  have SL : Hid (∀ W, PS w0 W q l l g o c → Calls Try.prog 18 #[.pointer (some ⟨q, 0, none⟩), .int .i64 i, .int .i64 j] W fun e w' => ∃ A z, e = .returned (.slice A (b - a) z) ∧ IsTx w' A x1 z ∧ Below W.heap.size W w') := fun W p => by
    have := f_slice p.fresh (by omega) i j i0 i1 j0 j1
    rwa [cu, x1l] at this
  have al : PS w0 (w.alloc (.cells #[.int .i64 k, .int .i64 i, .int .i64 j, .bool f, .string s] 28)) q l l g o c := P.keep AL.out
  have P1 := Lib.hid al
  obtain ⟨o', eo, it'⟩ := P.tx.tail a (by omega)
  have it1 : ∃ oo, (if c = a then some (⟨g, o, none⟩ : Addr) else some ⟨g, o + a, none⟩) = some ⟨g, oo, none⟩ ∧ IsTx w (some ⟨g, oo, none⟩) x1 (c - a) := by
    refine ⟨o', eo, ?_⟩
    have := it'.part 0 (b - a) (by rw [List.length_drop]; omega)
    rw [hx1]
    exact this
  clear eo it' o'
  obtain ⟨o', eo, it'⟩ := it1
  have IT1 := Lib.hid it'
  have TX : Hid (∀ W A z, IsTx W A x1 z → Below w.heap.size w W → Calls Try.prog 12 #[.slice A (b - a) z, .slice (some ⟨g, o', none⟩) (b - a) (c - a)] W fun e w' => e = .returned (.bool true) ∧ Below W.heap.size W w') := fun W A z it hb => by
    have := texts_any W A (some ⟨g, o', none⟩) x1 x1 z (c - a) it (IT1.out.keep hb)
    rwa [decide_eq_true rfl, x1l] at this
  have X1 := Lib.hid (And.intro hx1 x1l)
  have cx0 : w.cell? ⟨g, o + m, none⟩ = some (.string x) := by
    obtain ⟨p, e, hc⟩ := P.tx.at_ m HM.out.1
    injection e with e
    subst e
    rw [show (⟨g, o + m, none⟩ : Addr) = (⟨g, o, none⟩ : Addr).add m by rw [Addr.add_lit], hc]
    rw [List.getElem?_eq_getElem HM.out.1] at ex
    injection ex with ex
    rw [ex]
  have lg := P.lt
  have KP : Hid (∀ W, Below (w.alloc (.cells #[.int .i64 k, .int .i64 i, .int .i64 j, .bool f, .string s] 28)).heap.size (w.alloc (.cells #[.int .i64 k, .int .i64 i, .int .i64 j, .bool f, .string s] 28)) W → W.cell? ⟨w.heap.size, 1, none⟩ = some (.int .i64 i) ∧ W.cell? ⟨w.heap.size, 2, none⟩ = some (.int .i64 j) ∧ W.cell? ⟨g, o + m, none⟩ = some (.string x)) := fun W hb => ⟨by rw [hb.cell (p := ⟨w.heap.size, 1, none⟩) (by simp), World.cell?_alloc_new]; rfl, by rw [hb.cell (p := ⟨w.heap.size, 2, none⟩) (by simp), World.cell?_alloc_new]; rfl, by rw [hb.cell (p := ⟨g, o + m, none⟩) (by show g < _; simp; omega), AL.out.cell (p := ⟨g, o + m, none⟩) lg]; exact cx0⟩
  clear P en hth i0 i1 j0 j1 al it' cu x1l hx1 ea eb ab em hm ex cx0
  go_enter Try.func9, Try.ntmps9
  go_wp2_with fail
  go_at_call 23
  with_reducible refine (RP.out _).mono ?_
  rintro e w1 ⟨rfl, rfl⟩
  go_wp2_with fail
  go_at_call 24
  with_reducible refine (RS.out _).mono ?_
  rintro e w2 ⟨rfl, rfl⟩
  go_wp2_with fail
  go_at_call 21
  with_reducible refine (AT.out _ P1.out).mono ?_
  rintro e w3 ⟨rfl, hb3⟩
  have B3 := Lib.hid hb3
  have kp3 := KP.out _ hb3
  obtain ⟨kq1, kq2, kq3⟩ := kp3
  have P3 := Lib.hid (P1.out.keep hb3)
  have KQ : Hid (∀ W, Below w3.heap.size w3 W → Below w3.heap.size w3 W ∧ W.cell? ⟨w.heap.size, 1, none⟩ = some (.int .i64 i) ∧ W.cell? ⟨w.heap.size, 2, none⟩ = some (.int .i64 j) ∧ W.cell? ⟨g, o + m, none⟩ = some (.string x)) := fun W hb => ⟨hb, KP.out W (below_then B3.out hb)⟩
  have TX3 : Hid (∀ W A z, IsTx W A x1 z → Below w3.heap.size w3 W → Calls Try.prog 12 #[.slice A (b - a) z, .slice (some ⟨g, o', none⟩) (b - a) (c - a)] W fun e w' => e = .returned (.bool true) ∧ Below W.heap.size W w') := fun W A z it hb => TX.out W A z it (below_then AL.out (below_then B3.out hb))
  clear hb3
  go_wp2_with fail
  go_region_held3 (fun W => Below w3.heap.size w3 W ∧ W.cell? ⟨w.heap.size, 1, none⟩ = some (.int .i64 i) ∧ W.cell? ⟨w.heap.size, 2, none⟩ = some (.int .i64 j) ∧ W.cell? ⟨g, o + m, none⟩ = some (.string x)) (first
    | exact KQ.out _ (Below.refl _ _).drew
    | exact KQ.out _ (by assumption)
    | assumption) (first
    | (go_at_call 18; with_reducible refine (SL.out _ (P3.out.keep (by first | assumption | exact (Below.refl _ _).drew))).mono ?_; rintro e w5 ⟨A5, z5, rfl, it5, hb5'⟩; have hb5 : Below w3.heap.size w3 w5 := below_then (by first | assumption | exact (Below.refl _ _).drew) hb5')
    | (go_at_call 12; with_reducible refine (TX3.out _ _ _ it5 hb5).mono ?_; rintro e w6 ⟨rfl, hb6'⟩; have hb6 : Below w3.heap.size w3 w6 := below_then hb5 hb6'))
  have P6 := Lib.hid (P3.out.keep hb6)
  clear it5 hb5 hb5' hb6 hb6'
  go_wp2_with fail
  go_ret2
  rw [LN.out]
  exact ⟨l, g, o, c, by first | rfl | simp, P6.out, by simp⟩

end Go.Proofs.Yteghokakjonblaa
