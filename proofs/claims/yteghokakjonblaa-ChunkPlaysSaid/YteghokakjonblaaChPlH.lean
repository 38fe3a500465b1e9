/- The law's play: Slice, none there. -/
import Derived.Test.YteghokakjonblaaChPlA
import Derived.Test.YteghokakjonblaaChRefPl
import Derived.Deep.RegionHeld3
namespace Go.Proofs.Yteghokakjonblaa
open Go.RowKit Go.Lib
set_option linter.unusedVariables false
set_option maxRecDepth 20000 in
set_option maxHeartbeats 4000000 in
theorem slc_out (w0 w : World) (q g o c : Nat) (l : List ByteArray) (P : PS w0 w q l l g o c) (k i j : Int) (f : Bool) (s : ByteArray) (hk : (wrap64 (k.tmod 8 + 8)).tmod 8 = 7) (i0 : -9223372036854775808 ≤ i) (i1 : i ≤ 9223372036854775807) (j0 : -9223372036854775808 ≤ j) (j1 : j ≤ 9223372036854775807) (hs : s.size ≤ 20) (hl : l.length ≤ 300) (hth : there l.length i = false) :
    Calls Try.prog 9 #[.pointer (some ⟨q, 0, none⟩), .slice (some ⟨g, o, none⟩) l.length c, .agg #[.int .i64 k, .int .i64 i, .int .i64 j, .bool f, .string s]] w (Played w0 q l) := by
  have PP := Lib.hid P
  have lc := P.tx.2.1
  have c9 := P.tx.2.2.1
  unfold maxLen at c9
  have bw := P.bel.size
  obtain ⟨n, en⟩ : ∃ n, n = l.length := ⟨_, rfl⟩
  rw [← en] at lc hl ⊢
  have LN := Lib.hid en
  have n0 : (0 : Int) ≤ (n : Int) := by omega
  have n9 : (n : Int) ≤ 300 := by omega
  have nc : (n : Int) ≤ (c : Int) := by omega
  have c0 : (0 : Int) ≤ (c : Int) := by omega
  have AL : Hid (Below w.heap.size w (w.alloc (.cells #[.int .i64 k, .int .i64 i, .int .i64 j, .bool f, .string s] 28))) := (Below.refl _ w).alloc (Nat.le_refl _) _
  obtain ⟨fr, efr⟩ : ∃ fr, fr = front n i := ⟨_, rfl⟩
  have RP : Hid (∀ W, Calls Try.prog 23 #[.int .i64 (n : Int), .int .i64 i] W fun e w' => e = .returned (.tuple #[.int .i64 fr, .bool false]) ∧ w' = W) := fun W => by
    have := rplace_any W n (by omega) i i0 i1
    rwa [← efr, show there n i = false by rw [en]; exact hth] at this
  obtain ⟨a, ea⟩ : ∃ a, a = (span n i j).1 := ⟨_, rfl⟩
  obtain ⟨b, eb⟩ : ∃ b, b = (span n i j).2 := ⟨_, rfl⟩
  have ab := span_le n i j
  rw [← ea, ← eb] at ab
  have a0 : (0 : Int) ≤ (a : Int) := by omega
  have a1 : (a : Int) ≤ (b : Int) := by omega
  have b1 : (b : Int) ≤ (n : Int) := by omega
  have b2 : (b : Int) ≤ (c : Int) := by omega
  have b0 : (0 : Int) ≤ (b : Int) := by omega
  have RS : Hid (∀ W, Calls Try.prog 24 #[.int .i64 (n : Int), .int .i64 i, .int .i64 j] W fun e w' => e = .returned (.tuple #[.int .i64 (a : Int), .int .i64 (b : Int)]) ∧ w' = W) := fun W => by
    have := rplaces_any W n (by omega) i j i0 i1 j0 j1
    rwa [← ea, ← eb] at this
  obtain ⟨x1, hx1⟩ : ∃ x1 : List ByteArray, x1 = (l.drop a).take (b - a) := ⟨_, rfl⟩
  have cu : cut l i j = x1 := by rw [cut_span, hx1, ea, eb, en]
  have x1l : x1.length = b - a := by rw [hx1, List.length_take, List.length_drop]; omega
  have AT : Hid (∀ W, PS w0 W q l l g o c → Calls Try.prog 21 #[.pointer (some ⟨q, 0, none⟩), .int .i64 i] W fun e w' => e = .returned (.tuple #[.string ⟨#[]⟩, .bool false]) ∧ Below W.heap.size W w') := fun W p => by
    have := f_at p.fresh (by omega) i i0 i1
    rw [hth] at this
    unfold atOf at this
    rw [if_neg (by rw [hth]; simp)] at this
    exact this
  have SL : Hid (∀ W, PS w0 W q l l g o c → Calls Try.prog 18 #[.pointer (some ⟨q, 0, none⟩), .int .i64 i, .int .i64 j] W fun e w' => ∃ A z, e = .returned (.slice A (b - a) z) ∧ IsTx w' A x1 z ∧ Below W.heap.size W w') := fun W p => by
    have := f_slice p.fresh (by omega) i j i0 i1 j0 j1
    rwa [cu, x1l] at this
  have al : PS w0 (w.alloc (.cells #[.int .i64 k, .int .i64 i, .int .i64 j, .bool f, .string s] 28)) q l l g o c := P.keep AL.out
  have P1 := Lib.hid al
  obtain ⟨o', eo, it'⟩ := P.tx.tail a (by omega)
  have it1 : ∃ oo, (if c = a then some (⟨g, o, none⟩ : Addr) else some ⟨g, o + a, none⟩) = some ⟨g, oo, none⟩ ∧ IsTx w (some ⟨g, oo, none⟩) x1 (c - a) := by
    refine ⟨o', eo, ?_⟩
    have := it'.part 0 (b - a) (by rw [List.length_drop]; omega)
    rw [hx1]
    exact this
  clear eo it' o'
  obtain ⟨o', eo, it'⟩ := it1
  have IT1 := Lib.hid it'
  have TX : Hid (∀ W A z, IsTx W A x1 z → Below w.heap.size w W → Calls Try.prog 12 #[.slice A (b - a) z, .slice (some ⟨g, o', none⟩) (b - a) (c - a)] W fun e w' => e = .returned (.bool true) ∧ Below W.heap.size W w') := fun W A z it hb => by
    have := texts_any W A (some ⟨g, o', none⟩) x1 x1 z (c - a) it (IT1.out.keep hb)
    rwa [decide_eq_true rfl, x1l] at this
  have X1 := Lib.hid (And.intro hx1 x1l)
  have lg := P.lt
  have KP : Hid (∀ W, Below (w.alloc (.cells #[.int .i64 k, .int .i64 i, .int .i64 j, .bool f, .string s] 28)).heap.size (w.alloc (.cells #[.int .i64 k, .int .i64 i, .int .i64 j, .bool f, .string s] 28)) W → W.cell? ⟨w.heap.size, 1, none⟩ = some (.int .i64 i) ∧ W.cell? ⟨w.heap.size, 2, none⟩ = some (.int .i64 j)) := fun W hb => ⟨by rw [hb.cell (p := ⟨w.heap.size, 1, none⟩) (by simp), World.cell?_alloc_new]; rfl, by rw [hb.cell (p := ⟨w.heap.size, 2, none⟩) (by simp), World.cell?_alloc_new]; rfl⟩
  clear P en hth i0 i1 j0 j1 al it' cu x1l hx1 ea eb ab efr
  go_enter Try.func9, Try.ntmps9
  go_wp2_with fail
  go_at_call 23
  with_reducible refine (RP.out _).mono ?_
  rintro e w1 ⟨rfl, rfl⟩
  go_wp2_with fail
  go_at_call 24
  with_reducible refine (RS.out _).mono ?_
  rintro e w2 ⟨rfl, rfl⟩
  go_wp2_with fail
  go_at_call 21
  with_reducible refine (AT.out _ P1.out).mono ?_
  rintro e w3 ⟨rfl, hb3⟩
  have B3 := Lib.hid hb3
  have kp3 := KP.out _ hb3
  obtain ⟨kq1, kq2⟩ := kp3
  have P3 := Lib.hid (P1.out.keep hb3)
  have KQ : Hid (∀ W, Below w3.heap.size w3 W → Below w3.heap.size w3 W ∧ W.cell? ⟨w.heap.size, 1, none⟩ = some (.int .i64 i) ∧ W.cell? ⟨w.heap.size, 2, none⟩ = some (.int .i64 j)) := fun W hb => ⟨hb, KP.out W (below_then B3.out hb)⟩
  have TX3 : Hid (∀ W A z, IsTx W A x1 z → Below w3.heap.size w3 W → Calls Try.prog 12 #[.slice A (b - a) z, .slice (some ⟨g, o', none⟩) (b - a) (c - a)] W fun e w' => e = .returned (.bool true) ∧ Below W.heap.size W w') := fun W A z it hb => TX.out W A z it (below_then AL.out (below_then B3.out hb))
  clear hb3
  go_wp2_with fail
  refine wp_region_noPanic ?_
  refine wp_region_held_drew (S := fun W => Below w3.heap.size w3 W ∧ W.cell? ⟨w.heap.size, 1, none⟩ = some (.int .i64 i) ∧ W.cell? ⟨w.heap.size, 2, none⟩ = some (.int .i64 j)) (by kernel_rfl) (KQ.out _ (Below.refl _ _).drew) (fun hHeld => ?_)
  refine wpAnyH_take (i := 0) (oi := ⟨some 216, .move (.tmp 1), 22, "law.go:68", #[], none⟩) (v := ?_) rfl (by kernel_rfl) (by kernel_rfl) (by kernel_rfl) (fun _ _ _ h => h) (Or.inl ⟨by rfl, ?_⟩) hHeld ?_
  rotate_left
  · intro W hSw; obtain ⟨hb, hc1, hc2⟩ := hSw; go_simp; try with_reducible rfl
  try simp only [Act.put, List.setIfInBounds_toArray, List.set_cons_zero, List.set_cons_succ]
  refine wpAnyH_take (i := 1) (oi := ⟨some 217, .move (.tmp 0), 25, "law.go:68", #[], none⟩) (v := ?_) rfl (by kernel_rfl) (by kernel_rfl) (by kernel_rfl) (fun _ _ _ h => h) (Or.inl ⟨by rfl, ?_⟩) hHeld ?_
  rotate_left
  · intro W hSw; obtain ⟨hb, hc1, hc2⟩ := hSw; go_simp; try with_reducible rfl
  try simp only [Act.put, List.setIfInBounds_toArray, List.set_cons_zero, List.set_cons_succ]
  refine wpAnyH_take (i := 2) (oi := ⟨some 218, .fieldAddr 28 (.tmp 5) 1, 0, "law.go:68", #[], none⟩) (v := ?_) rfl (by kernel_rfl) (by kernel_rfl) (by kernel_rfl) (fun _ _ _ h => h) (Or.inl ⟨by rfl, ?_⟩) hHeld ?_
  rotate_left
  · intro W hSw; obtain ⟨hb, hc1, hc2⟩ := hSw; go_simp; try with_reducible rfl
  try simp only [Act.put, List.setIfInBounds_toArray, List.set_cons_zero, List.set_cons_succ]
  refine wpAnyH_take (i := 3) (oi := ⟨some 219, .load 3 (.tmp 218), 3, "law.go:68", #[⟨2, .data⟩], none⟩) (v := ?_) rfl (by kernel_rfl) (by kernel_rfl) (by kernel_rfl) (fun _ _ _ h => h) (Or.inl ⟨by rfl, ?_⟩) hHeld ?_
  rotate_left
  · intro W hSw; obtain ⟨hb, hc1, hc2⟩ := hSw; go_simp; try with_reducible rfl
  try simp only [Act.put, List.setIfInBounds_toArray, List.set_cons_zero, List.set_cons_succ]
  refine wpAnyH_take (i := 4) (oi := ⟨some 220, .fieldAddr 28 (.tmp 5) 2, 0, "law.go:68", #[], none⟩) (v := ?_) rfl (by kernel_rfl) (by kernel_rfl) (by kernel_rfl) (fun _ _ _ h => h) (Or.inl ⟨by rfl, ?_⟩) hHeld ?_
  rotate_left
  · intro W hSw; obtain ⟨hb, hc1, hc2⟩ := hSw; go_simp; try with_reducible rfl
  try simp only [Act.put, List.setIfInBounds_toArray, List.set_cons_zero, List.set_cons_succ]
  refine wpAnyH_take (i := 5) (oi := ⟨some 221, .load 3 (.tmp 220), 3, "law.go:68", #[⟨4, .data⟩], none⟩) (v := ?_) rfl (by kernel_rfl) (by kernel_rfl) (by kernel_rfl) (fun _ _ _ h => h) (Or.inl ⟨by rfl, ?_⟩) hHeld ?_
  rotate_left
  · intro W hSw; obtain ⟨hb, hc1, hc2⟩ := hSw; go_simp; try with_reducible rfl
  try simp only [Act.put, List.setIfInBounds_toArray, List.set_cons_zero, List.set_cons_succ]
  refine wpAnyH_take (i := 7) (oi := ⟨some 223, .move (.tmp 1), 22, "law.go:68", #[], none⟩) (v := ?_) rfl (by kernel_rfl) (by kernel_rfl) (by kernel_rfl) (fun _ _ _ h => h) (Or.inl ⟨by rfl, ?_⟩) hHeld ?_
  rotate_left
  · intro W hSw; obtain ⟨hb, hc1, hc2⟩ := hSw; go_simp; try with_reducible rfl
  try simp only [Act.put, List.setIfInBounds_toArray, List.set_cons_zero, List.set_cons_succ]
  refine wpAnyH_take (i := 8) (oi := ⟨some 224, .move (.tmp 17), 3, "law.go:68", #[], none⟩) (v := ?_) rfl (by kernel_rfl) (by kernel_rfl) (by kernel_rfl) (fun _ _ _ h => h) (Or.inl ⟨by rfl, ?_⟩) hHeld ?_
  rotate_left
  · intro W hSw; obtain ⟨hb, hc1, hc2⟩ := hSw; go_simp; try with_reducible rfl
  try simp only [Act.put, List.setIfInBounds_toArray, List.set_cons_zero, List.set_cons_succ]
  refine wpAnyH_take (i := 9) (oi := ⟨some 225, .move (.tmp 18), 3, "law.go:68", #[], none⟩) (v := ?_) rfl (by kernel_rfl) (by kernel_rfl) (by kernel_rfl) (fun _ _ _ h => h) (Or.inl ⟨by rfl, ?_⟩) hHeld ?_
  rotate_left
  · intro W hSw; obtain ⟨hb, hc1, hc2⟩ := hSw; go_simp; try with_reducible rfl
  try simp only [Act.put, List.setIfInBounds_toArray, List.set_cons_zero, List.set_cons_succ]
  refine wpAnyH_take (i := 10) (oi := ⟨some 226, .slice 22 (.tmp 223) (some (.tmp 224)) (some (.tmp 225)) none, 22, "law.go:68", #[⟨7, .data⟩, ⟨8, .data⟩, ⟨9, .data⟩], none⟩) (v := ?_) rfl (by kernel_rfl) (by kernel_rfl) (by kernel_rfl) (fun _ _ _ h => h) (Or.inl ⟨by rfl, ?_⟩) hHeld ?_
  rotate_left
  · intro W hSw; obtain ⟨hb, hc1, hc2⟩ := hSw; go_simp; try with_reducible rfl
  try simp only [Act.put, List.setIfInBounds_toArray, List.set_cons_zero, List.set_cons_succ]
  refine wpAnyH_ready (rs := [6]) (by kernel_rfl) (by simp) ?_
  refine AllReadyH.cons (o := ⟨some 222, .call { callee := .value (.func 18), args := #[.tmp 217, .tmp 219, .tmp 221], argTypes := #[25, 3, 3] }, 22, "law.go:68", #[⟨1, .data⟩, ⟨3, .data⟩, ⟨5, .data⟩], none⟩) rfl (fun K hK => ?_) AllReadyH.nil
  go_simp
  go_at_call 18
  with_reducible refine (SL.out _ (P3.out.keep (Below.refl _ _).drew)).mono ?_
  rintro e w5 ⟨A5, z5, rfl, it5, hb5'⟩
  have hb5 : Below w3.heap.size w3 w5 := below_then (Below.refl _ _).drew hb5'
  refine hK.out _ _ (KQ.out _ hb5) (fun hHeld5 => ?_)
  clear hK K hHeld
  try simp only [Act.put, List.setIfInBounds_toArray, List.set_cons_zero, List.set_cons_succ]
  refine wpAnyH_ready (rs := [11]) (by kernel_rfl) (by simp) ?_
  refine AllReadyH.cons (o := ⟨some 227, .call { callee := .value (.func 12), args := #[.tmp 222, .tmp 226], argTypes := #[22, 22] }, 4, "law.go:68", #[⟨6, .data⟩, ⟨10, .data⟩, ⟨6, .chain⟩], none⟩) rfl (fun K hK => ?_) AllReadyH.nil
  go_simp
  go_at_call 12
  with_reducible refine (TX3.out _ _ _ it5 hb5).mono ?_
  rintro e w6 ⟨rfl, hb6'⟩
  have hb6 : Below w3.heap.size w3 w6 := below_then hb5 hb6'
  refine hK.out _ _ (KQ.out _ hb6) (fun hHeld6 => ?_)
  clear hK K hHeld5
  try simp only [Act.put, List.setIfInBounds_toArray, List.set_cons_zero, List.set_cons_succ]
  refine wpAnyH_take (i := 12) (oi := ⟨some 228, .move (.tmp 227), 4, "law.go:68", #[⟨11, .data⟩, ⟨11, .chain⟩], none⟩) (v := ?_) rfl (by kernel_rfl) (by kernel_rfl) (by kernel_rfl) (fun _ _ _ h => h) (Or.inl ⟨by rfl, ?_⟩) hHeld6 ?_
  rotate_left
  · intro W hSw; obtain ⟨hb, hc1, hc2⟩ := hSw; go_simp; try with_reducible rfl
  try simp only [Act.put, List.setIfInBounds_toArray, List.set_cons_zero, List.set_cons_succ]
  refine wpAnyH_take (i := 13) (oi := ⟨some 229, .move (.tmp 20), 4, "law.go:68", #[⟨12, .guard⟩], some (12, true)⟩) (v := ?_) rfl (by kernel_rfl) (by kernel_rfl) (by kernel_rfl) (fun _ _ _ h => h) (Or.inl ⟨by rfl, ?_⟩) hHeld6 ?_
  rotate_left
  · intro W hSw; obtain ⟨hb, hc1, hc2⟩ := hSw; go_simp; try with_reducible rfl
  try simp only [Act.put, List.setIfInBounds_toArray, List.set_cons_zero, List.set_cons_succ]
  refine wpAnyH_take (i := 14) (oi := ⟨some 230, .move (.tmp 10), 4, "law.go:68", #[⟨12, .guard⟩], some (12, true)⟩) (v := ?_) rfl (by kernel_rfl) (by kernel_rfl) (by kernel_rfl) (fun _ _ _ h => h) (Or.inl ⟨by rfl, ?_⟩) hHeld6 ?_
  rotate_left
  · intro W hSw; obtain ⟨hb, hc1, hc2⟩ := hSw; go_simp; try with_reducible rfl
  try simp only [Act.put, List.setIfInBounds_toArray, List.set_cons_zero, List.set_cons_succ]
  refine wpAnyH_take (i := 15) (oi := ⟨some 231, .binOp .eql 4 (.tmp 229) (.tmp 230) 4, 4, "law.go:68", #[⟨13, .data⟩, ⟨14, .data⟩, ⟨12, .guard⟩], some (12, true)⟩) (v := ?_) rfl (by kernel_rfl) (by kernel_rfl) (by kernel_rfl) (fun _ _ _ h => h) (Or.inl ⟨by rfl, ?_⟩) hHeld6 ?_
  rotate_left
  · intro W hSw; obtain ⟨hb, hc1, hc2⟩ := hSw; go_simp; try with_reducible rfl
  try simp only [Act.put, List.setIfInBounds_toArray, List.set_cons_zero, List.set_cons_succ]
  refine wpAnyH_take (i := 16) (oi := ⟨some 232, .pick (.tmp 228) (.tmp 231) (.const (.bool false)), 4, "law.go:68", #[⟨12, .data⟩, ⟨15, .data⟩], none⟩) (v := ?_) rfl (by kernel_rfl) (by kernel_rfl) (by kernel_rfl) (fun _ _ _ h => h) (Or.inl ⟨by rfl, ?_⟩) hHeld6 ?_
  rotate_left
  · intro W hSw; obtain ⟨hb, hc1, hc2⟩ := hSw; go_simp; try with_reducible rfl
  try simp only [Act.put, List.setIfInBounds_toArray, List.set_cons_zero, List.set_cons_succ]
  refine wpAnyH_take (i := 17) (oi := ⟨some 233, .move (.tmp 232), 4, "law.go:68", #[⟨16, .data⟩, ⟨12, .chain⟩], none⟩) (v := ?_) rfl (by kernel_rfl) (by kernel_rfl) (by kernel_rfl) (fun _ _ _ h => h) (Or.inl ⟨by rfl, ?_⟩) hHeld6 ?_
  rotate_left
  · intro W hSw; obtain ⟨hb, hc1, hc2⟩ := hSw; go_simp; try with_reducible rfl
  try simp only [Act.put, List.setIfInBounds_toArray, List.set_cons_zero, List.set_cons_succ]
  refine wpAnyH_take (i := 18) (oi := ⟨some 234, .move (.tmp 10), 4, "law.go:68", #[⟨17, .guard⟩], some (17, true)⟩) (v := ?_) rfl (by kernel_rfl) (by kernel_rfl) (by kernel_rfl) (fun _ _ _ h => h) (Or.inl ⟨by rfl, ?_⟩) hHeld6 ?_
  rotate_left
  · intro W hSw; obtain ⟨hb, hc1, hc2⟩ := hSw; go_simp; try with_reducible rfl
  try simp only [Act.put, List.setIfInBounds_toArray, List.set_cons_zero, List.set_cons_succ]
  refine wpAnyH_take (i := 19) (oi := ⟨some 235, .unOp .not 4 (.tmp 234), 4, "law.go:68", #[⟨18, .data⟩, ⟨17, .guard⟩], some (17, true)⟩) (v := ?_) rfl (by kernel_rfl) (by kernel_rfl) (by kernel_rfl) (fun _ _ _ h => h) (Or.inl ⟨by rfl, ?_⟩) hHeld6 ?_
  rotate_left
  · intro W hSw; obtain ⟨hb, hc1, hc2⟩ := hSw; go_simp; try with_reducible rfl
  try simp only [Act.put, List.setIfInBounds_toArray, List.set_cons_zero, List.set_cons_succ]
  refine wpAnyH_take (i := 20) (oi := ⟨some 236, .move (.tmp 235), 4, "law.go:68", #[⟨19, .data⟩, ⟨17, .chain⟩, ⟨17, .guard⟩], some (17, true)⟩) (v := ?_) rfl (by kernel_rfl) (by kernel_rfl) (by kernel_rfl) (fun _ _ _ h => h) (Or.inl ⟨by rfl, ?_⟩) hHeld6 ?_
  rotate_left
  · intro W hSw; obtain ⟨hb, hc1, hc2⟩ := hSw; go_simp; try with_reducible rfl
  try simp only [Act.put, List.setIfInBounds_toArray, List.set_cons_zero, List.set_cons_succ]
  refine wpAnyH_take (i := 21) (oi := ⟨some 237, .move (.tmp 19), 9, "law.go:68", #[⟨20, .guard⟩, ⟨29, .gcOnly .lateStores⟩], some (20, false)⟩) (v := undef) rfl (by kernel_rfl) (by kernel_rfl) (by kernel_rfl) (fun _ _ _ h => h) (Or.inr ⟨by rfl, rfl⟩) hHeld6 ?_
  try simp only [Act.put, List.setIfInBounds_toArray, List.set_cons_zero, List.set_cons_succ]
  refine wpAnyH_take (i := 22) (oi := ⟨some 238, .move (.tmp 1), 22, "law.go:68", #[⟨20, .guard⟩, ⟨29, .gcOnly .lateStores⟩], some (20, false)⟩) (v := undef) rfl (by kernel_rfl) (by kernel_rfl) (by kernel_rfl) (fun _ _ _ h => h) (Or.inr ⟨by rfl, rfl⟩) hHeld6 ?_
  try simp only [Act.put, List.setIfInBounds_toArray, List.set_cons_zero, List.set_cons_succ]
  refine wpAnyH_take (i := 23) (oi := ⟨some 239, .move (.tmp 9), 3, "law.go:68", #[⟨20, .guard⟩, ⟨29, .gcOnly .lateStores⟩], some (20, false)⟩) (v := undef) rfl (by kernel_rfl) (by kernel_rfl) (by kernel_rfl) (fun _ _ _ h => h) (Or.inr ⟨by rfl, rfl⟩) hHeld6 ?_
  try simp only [Act.put, List.setIfInBounds_toArray, List.set_cons_zero, List.set_cons_succ]
  refine wpAnyH_take (i := 24) (oi := ⟨some 240, .indexAddr 22 (.tmp 238) (.tmp 239), 0, "law.go:68", #[⟨22, .data⟩, ⟨23, .data⟩, ⟨20, .guard⟩, ⟨29, .gcOnly .lateStores⟩], some (20, false)⟩) (v := undef) rfl (by kernel_rfl) (by kernel_rfl) (by kernel_rfl) (fun _ _ _ h => h) (Or.inr ⟨by rfl, rfl⟩) hHeld6 ?_
  try simp only [Act.put, List.setIfInBounds_toArray, List.set_cons_zero, List.set_cons_succ]
  refine wpAnyH_take (i := 25) (oi := ⟨some 241, .load 9 (.tmp 240), 9, "law.go:68", #[⟨24, .data⟩, ⟨20, .guard⟩, ⟨29, .gcOnly .lateStores⟩], some (20, false)⟩) (v := undef) rfl (by kernel_rfl) (by kernel_rfl) (by kernel_rfl) (fun _ _ _ h => h) (Or.inr ⟨by rfl, rfl⟩) hHeld6 ?_
  try simp only [Act.put, List.setIfInBounds_toArray, List.set_cons_zero, List.set_cons_succ]
  refine wpAnyH_take (i := 26) (oi := ⟨some 242, .binOp .eql 9 (.tmp 237) (.tmp 241) 9, 4, "law.go:68", #[⟨21, .data⟩, ⟨25, .data⟩, ⟨20, .guard⟩, ⟨29, .gcOnly .lateStores⟩], some (20, false)⟩) (v := undef) rfl (by kernel_rfl) (by kernel_rfl) (by kernel_rfl) (fun _ _ _ h => h) (Or.inr ⟨by rfl, rfl⟩) hHeld6 ?_
  try simp only [Act.put, List.setIfInBounds_toArray, List.set_cons_zero, List.set_cons_succ]
  refine wpAnyH_take (i := 27) (oi := ⟨some 243, .pick (.tmp 236) (.const (.bool true)) (.tmp 242), 4, "law.go:68", #[⟨20, .data⟩, ⟨26, .data⟩, ⟨17, .guard⟩, ⟨29, .gcOnly .lateStores⟩], some (17, true)⟩) (v := ?_) rfl (by kernel_rfl) (by kernel_rfl) (by kernel_rfl) (fun _ _ _ h => h) (Or.inl ⟨by rfl, ?_⟩) hHeld6 ?_
  rotate_left
  · intro W hSw; obtain ⟨hb, hc1, hc2⟩ := hSw; go_simp; try with_reducible rfl
  try simp only [Act.put, List.setIfInBounds_toArray, List.set_cons_zero, List.set_cons_succ]
  refine wpAnyH_take (i := 28) (oi := ⟨some 244, .pick (.tmp 233) (.tmp 243) (.const (.bool false)), 4, "law.go:68", #[⟨17, .data⟩, ⟨27, .data⟩, ⟨29, .gcOnly .lateStores⟩], none⟩) (v := ?_) rfl (by kernel_rfl) (by kernel_rfl) (by kernel_rfl) (fun _ _ _ h => h) (Or.inl ⟨by rfl, ?_⟩) hHeld6 ?_
  rotate_left
  · intro W hSw; obtain ⟨hb, hc1, hc2⟩ := hSw; go_simp; try with_reducible rfl
  try simp only [Act.put, List.setIfInBounds_toArray, List.set_cons_zero, List.set_cons_succ]
  refine wpAnyH_take (i := 29) (oi := ⟨some 6, .assign (.tmp 216), 22, "law.go:68", #[⟨0, .data⟩, ⟨20, .chain⟩, ⟨0, .phase⟩, ⟨1, .textOnly .lateStores⟩, ⟨2, .textOnly .lateStores⟩, ⟨3, .textOnly .lateStores⟩, ⟨4, .textOnly .lateStores⟩, ⟨5, .textOnly .lateStores⟩, ⟨6, .textOnly .lateStoresUnsure⟩, ⟨7, .textOnly .lateStores⟩, ⟨8, .textOnly .lateStores⟩, ⟨9, .textOnly .lateStores⟩, ⟨10, .textOnly .lateStoresUnsure⟩, ⟨11, .textOnly .lateStoresUnsure⟩, ⟨12, .textOnly .lateStores⟩, ⟨13, .textOnly .lateStores⟩, ⟨14, .textOnly .lateStores⟩, ⟨15, .textOnly .lateStores⟩, ⟨16, .textOnly .lateStores⟩, ⟨17, .textOnly .lateStores⟩, ⟨18, .textOnly .lateStores⟩, ⟨19, .textOnly .lateStores⟩, ⟨20, .textOnly .lateStores⟩, ⟨21, .textOnly .lateStores⟩, ⟨22, .textOnly .lateStores⟩, ⟨23, .textOnly .lateStores⟩, ⟨24, .textOnly .lateStores⟩, ⟨25, .textOnly .lateStores⟩, ⟨26, .textOnly .lateStores⟩, ⟨27, .textOnly .lateStores⟩, ⟨28, .textOnly .lateStores⟩], none⟩) (v := ?_) rfl (by kernel_rfl) (by kernel_rfl) (by kernel_rfl) (fun _ _ _ h => h) (Or.inl ⟨by rfl, ?_⟩) hHeld6 ?_
  rotate_left
  · intro W hSw; obtain ⟨hb, hc1, hc2⟩ := hSw; go_simp; try with_reducible rfl
  try simp only [Act.put, List.setIfInBounds_toArray, List.set_cons_zero, List.set_cons_succ]
  refine wpAnyH_take (i := 30) (oi := ⟨some 7, .assign (.tmp 244), 4, "law.go:68", #[⟨28, .data⟩, ⟨29, .chain⟩, ⟨0, .phase⟩, ⟨1, .phase⟩, ⟨2, .phase⟩, ⟨3, .phase⟩, ⟨4, .phase⟩, ⟨5, .phase⟩, ⟨6, .phase⟩, ⟨7, .phase⟩, ⟨8, .phase⟩, ⟨9, .phase⟩, ⟨10, .phase⟩, ⟨11, .phase⟩, ⟨12, .phase⟩, ⟨13, .phase⟩, ⟨14, .phase⟩, ⟨15, .phase⟩, ⟨16, .phase⟩, ⟨17, .phase⟩, ⟨18, .phase⟩, ⟨19, .phase⟩, ⟨20, .phase⟩, ⟨21, .phase⟩, ⟨22, .phase⟩, ⟨23, .phase⟩, ⟨24, .phase⟩, ⟨25, .phase⟩, ⟨26, .phase⟩, ⟨27, .phase⟩, ⟨28, .phase⟩, ⟨29, .phase⟩], none⟩) (v := ?_) rfl (by kernel_rfl) (by kernel_rfl) (by kernel_rfl) (fun _ _ _ h => h) (Or.inl ⟨by rfl, ?_⟩) hHeld6 ?_
  rotate_left
  · intro W hSw; obtain ⟨hb, hc1, hc2⟩ := hSw; go_simp; try with_reducible rfl
  try simp only [Act.put, List.setIfInBounds_toArray, List.set_cons_zero, List.set_cons_succ]
  refine wpAnyH_done (by kernel_rfl) ?_ _
  refine NoPanic.normal ?_
  have P6 := Lib.hid (P3.out.keep hb6)
  clear it5 hb5 hb5' hb6 hb6'
  go_wp2_with fail
  go_ret2
  rw [LN.out]
  exact ⟨l, g, o, c, by first | rfl | simp, P6.out, by simp⟩

end Go.Proofs.Yteghokakjonblaa
