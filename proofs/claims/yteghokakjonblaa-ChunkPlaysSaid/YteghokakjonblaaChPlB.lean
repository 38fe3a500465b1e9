/- The law's play: Pop. -/
import Derived.Test.YteghokakjonblaaChPlA
import Derived.Test.YteghokakjonblaaChPl
import Derived.BigQuiet
import Derived.Test.YteghokakjonblaaChRefPl
import Derived.Deep.RegionHeld3
namespace Go.Proofs.Yteghokakjonblaa
open Go.RowKit Go.Lib
set_option linter.unusedVariables false
set_option maxRecDepth 20000 in
set_option maxHeartbeats 4000000 in
theorem pop_nil_ (w0 w : World) (q g o c : Nat) (l : List ByteArray) (P : PS w0 w q l l g o c) (k i j : Int) (f : Bool) (s : ByteArray) (hk : (wrap64 (k.tmod 8 + 8)).tmod 8 = 2) (i0 : -9223372036854775808 ≤ i) (i1 : i ≤ 9223372036854775807) (j0 : -9223372036854775808 ≤ j) (j1 : j ≤ 9223372036854775807) (hs : s.size ≤ 20) (hl : l.length ≤ 300) (hx : l = []) :
    Calls Try.prog 9 #[.pointer (some ⟨q, 0, none⟩), .slice (some ⟨g, o, none⟩) l.length c, .agg #[.int .i64 k, .int .i64 i, .int .i64 j, .bool f, .string s]] w (Played w0 q l) := by
  have PP := Lib.hid P
  have lc := P.tx.2.1
  have c9 := P.tx.2.2.1
  unfold maxLen at c9
  have bw := P.bel.size
  obtain ⟨n, en⟩ : ∃ n, n = l.length := ⟨_, rfl⟩
  rw [← en] at lc hl ⊢
  have LN := Lib.hid en
  have n0 : (0 : Int) ≤ (n : Int) := by omega
  have n9 : (n : Int) ≤ 300 := by omega
  have nc : (n : Int) ≤ (c : Int) := by omega
  have c0 : (0 : Int) ≤ (c : Int) := by omega
  have AL : Hid (Below w.heap.size w (w.alloc (.cells #[.int .i64 k, .int .i64 i, .int .i64 j, .bool f, .string s] 28))) := (Below.refl _ w).alloc (Nat.le_refl _) _
  obtain ⟨fr, efr⟩ : ∃ fr, fr = front 0 i := ⟨_, rfl⟩
  obtain ⟨th, eth⟩ : ∃ th, th = there 0 i := ⟨_, rfl⟩
  have RP : Hid (∀ W, Calls Try.prog 23 #[.int .i64 0, .int .i64 i] W fun e w' => e = .returned (.tuple #[.int .i64 fr, .bool th]) ∧ w' = W) := fun W => by
    have := rplace_any W 0 (by omega) i i0 i1
    rw [← efr, ← eth] at this
    exact this
  obtain rfl : n = 0 := by rw [en, hx]; rfl
  have PU : Hid (Calls Try.prog 17 #[.pointer (some ⟨q, 0, none⟩), .bool f] (w.alloc (.cells #[.int .i64 k, .int .i64 i, .int .i64 j, .bool f, .string s] 28)) fun e w' => e = .returned (.tuple #[.string ⟨#[]⟩, .bool false]) ∧ PS w0 w' q [] l g o c ∧ ∀ b, w.heap.size ≤ b → b < (w.alloc (.cells #[.int .i64 k, .int .i64 i, .int .i64 j, .bool f, .string s] 28)).heap.size → w'.heap[b]? = (w.alloc (.cells #[.int .i64 k, .int .i64 i, .int .i64 j, .bool f, .string s] 28)).heap[b]?) := ps_call PP.out AL.out fun R fi fl => by
    have := pop_any _ q R fi (by rw [fi.num, fl]; have := LN.out; omega) f
    rw [fl, hx] at this
    rw [(pop_nil f).1, (pop_nil f).2.1] at this
    rw [show there ([] : List ByteArray).length (popAt f) = false from (pop_nil f).2.2] at this
    exact this
  clear P en efr eth i0 i1 j0 j1
  go_enter Try.func9, Try.ntmps9
  go_wp2_with fail
  go_at_call 23
  with_reducible refine (RP.out _).mono ?_
  rintro e w1 ⟨rfl, rfl⟩
  go_wp2_with fail
  go_at_call 17
  with_reducible refine PU.out.mono ?_
  rintro e w2 ⟨rfl, p2, kb⟩
  have P2 := Lib.hid p2
  clear p2 PU RP PP AL
  have cb : ∀ m, m < 5 → w2.cell? ⟨w.heap.size, m, none⟩ = (#[.int .i64 k, .int .i64 i, .int .i64 j, .bool f, .string s] : Array Value)[m]? := fun m _ => by
    have e := kb w.heap.size (Nat.le_refl _) (by simp)
    rw [World.cell?_of_block e, World.cell?_alloc_new]
  have cb0 : w2.cell? ⟨w.heap.size, 0, none⟩ = some (.int .i64 k) := cb 0 (by decide)
  have cb1 : w2.cell? ⟨w.heap.size, 1, none⟩ = some (.int .i64 i) := cb 1 (by decide)
  have cb2 : w2.cell? ⟨w.heap.size, 2, none⟩ = some (.int .i64 j) := cb 2 (by decide)
  have cb3 : w2.cell? ⟨w.heap.size, 3, none⟩ = some (.bool f) := cb 3 (by decide)
  have cb4 : w2.cell? ⟨w.heap.size, 4, none⟩ = some (.string s) := cb 4 (by decide)
  have kz : w.heap.size < w2.heap.size := by
    obtain ⟨-, e, -⟩ := And.intro trivial (And.intro (kb w.heap.size (Nat.le_refl _) (by simp)) trivial)
    rcases Nat.lt_or_ge w.heap.size w2.heap.size with x | x
    · exact x
    · rw [Array.getElem?_eq_none x, heap_alloc_new] at e; cases e
  clear cb kb
  go_wp2_with fail
  go_ret2
  exact ⟨[], g, o, c, by subst hx; first | rfl | simp, P2.out.sub (by have := P2.out.tx; rwa [hx] at this), by simp⟩

set_option maxRecDepth 20000 in
set_option maxHeartbeats 4000000 in
theorem pop_cons_ (w0 w : World) (q g o c : Nat) (l : List ByteArray) (P : PS w0 w q l l g o c) (k i j : Int) (s : ByteArray) (hk : (wrap64 (k.tmod 8 + 8)).tmod 8 = 2) (i0 : -9223372036854775808 ≤ i) (i1 : i ≤ 9223372036854775807) (j0 : -9223372036854775808 ≤ j) (j1 : j ≤ 9223372036854775807) (hs : s.size ≤ 20) (hl : l.length ≤ 300) (x : ByteArray) (r : List ByteArray) (hx : l = x :: r) :
    Calls Try.prog 9 #[.pointer (some ⟨q, 0, none⟩), .slice (some ⟨g, o, none⟩) l.length c, .agg #[.int .i64 k, .int .i64 i, .int .i64 j, .bool true, .string s]] w (Played w0 q l) := by
  have PP := Lib.hid P
  have lc := P.tx.2.1
  have c9 := P.tx.2.2.1
  unfold maxLen at c9
  have bw := P.bel.size
  obtain ⟨n, en⟩ : ∃ n, n = l.length := ⟨_, rfl⟩
  rw [← en] at lc hl ⊢
  have LN := Lib.hid en
  have n0 : (0 : Int) ≤ (n : Int) := by omega
  have n9 : (n : Int) ≤ 300 := by omega
  have nc : (n : Int) ≤ (c : Int) := by omega
  have c0 : (0 : Int) ≤ (c : Int) := by omega
  have AL : Hid (Below w.heap.size w (w.alloc (.cells #[.int .i64 k, .int .i64 i, .int .i64 j, .bool true, .string s] 28))) := (Below.refl _ w).alloc (Nat.le_refl _) _
  obtain ⟨fr, efr⟩ : ∃ fr, fr = front n i := ⟨_, rfl⟩
  obtain ⟨th, eth⟩ : ∃ th, th = there n i := ⟨_, rfl⟩
  have RP : Hid (∀ W, Calls Try.prog 23 #[.int .i64 (n : Int), .int .i64 i] W fun e w' => e = .returned (.tuple #[.int .i64 fr, .bool th]) ∧ w' = W) := fun W => by
    have := rplace_any W n (by omega) i i0 i1
    rwa [← efr, ← eth] at this
  have n1 : (1 : Int) ≤ (n : Int) := by rw [en, hx]; simp; try omega
  have n2 : (0 : Int) < (n : Int) := by omega
  have nz : ¬ ((n : Int) = 0) := by omega
  have PU : Hid (Calls Try.prog 17 #[.pointer (some ⟨q, 0, none⟩), .bool true] (w.alloc (.cells #[.int .i64 k, .int .i64 i, .int .i64 j, .bool true, .string s] 28)) fun e w' => e = .returned (.tuple #[.string x, .bool true]) ∧ PS w0 w' q r l g o c ∧ ∀ b, w.heap.size ≤ b → b < (w.alloc (.cells #[.int .i64 k, .int .i64 i, .int .i64 j, .bool true, .string s] 28)).heap.size → w'.heap[b]? = (w.alloc (.cells #[.int .i64 k, .int .i64 i, .int .i64 j, .bool true, .string s] 28)).heap[b]?) := ps_call PP.out AL.out fun R fi fl => by
    have := pop_any _ q R fi (by rw [fi.num, fl]; have := LN.out; omega) true
    rw [fl, there_pop, decide_eq_true (by have := LN.out; omega)] at this
    rw [hx, (pop_cons x r).1, (pop_cons x r).2] at this
    exact this
  have lg := P.lt
  have HX := Lib.hid hx
  clear P en efr eth i0 i1 j0 j1 hx
  go_enter Try.func9, Try.ntmps9
  go_wp2_with fail
  go_at_call 23
  with_reducible refine (RP.out _).mono ?_
  rintro e w1 ⟨rfl, rfl⟩
  go_wp2_with fail
  go_at_call 17
  with_reducible refine PU.out.mono ?_
  rintro e w2 ⟨rfl, p2, kb⟩
  have P2 := Lib.hid p2
  have cx : w2.cell? ⟨g, o, none⟩ = some (.string x) := by
    obtain ⟨p, e, hc⟩ := P2.out.tx.at_ 0 (by have := LN.out; omega)
    injection e with e
    subst e
    rw [show (⟨g, o, none⟩ : Addr) = (⟨g, o, none⟩ : Addr).add 0 by rw [Addr.add_lit, Nat.add_zero], hc]
    have := HX.out
    subst this
    rfl
  clear p2 PU RP PP AL
  have cb : ∀ m, m < 5 → w2.cell? ⟨w.heap.size, m, none⟩ = (#[.int .i64 k, .int .i64 i, .int .i64 j, .bool true, .string s] : Array Value)[m]? := fun m _ => by
    have e := kb w.heap.size (Nat.le_refl _) (by simp)
    rw [World.cell?_of_block e, World.cell?_alloc_new]
  have cb0 : w2.cell? ⟨w.heap.size, 0, none⟩ = some (.int .i64 k) := cb 0 (by decide)
  have cb1 : w2.cell? ⟨w.heap.size, 1, none⟩ = some (.int .i64 i) := cb 1 (by decide)
  have cb2 : w2.cell? ⟨w.heap.size, 2, none⟩ = some (.int .i64 j) := cb 2 (by decide)
  have cb3 : w2.cell? ⟨w.heap.size, 3, none⟩ = some (.bool true) := cb 3 (by decide)
  have cb4 : w2.cell? ⟨w.heap.size, 4, none⟩ = some (.string s) := cb 4 (by decide)
  have kz : w.heap.size < w2.heap.size := by
    obtain ⟨-, e, -⟩ := And.intro trivial (And.intro (kb w.heap.size (Nat.le_refl _) (by simp)) trivial)
    rcases Nat.lt_or_ge w.heap.size w2.heap.size with x | x
    · exact x
    · rw [Array.getElem?_eq_none x, heap_alloc_new] at e; cases e
  clear cb kb
  obtain ⟨o', eo, it'⟩ := P2.out.tx.tail 1 (by have := LN.out; omega)
  rw [HX.out] at it'
  have IT' : Hid (IsTx w2 (some ⟨g, o', none⟩) r (c - 1)) := it'
  clear it'
  go_wp2_with fail
  go_quiet (fail)
  go_wp2_with fail
  go_ret2
  have rn : n - 1 = r.length := by rw [LN.out, HX.out]; rfl
  rw [rn]
  exact ⟨r, g, o', c - 1, by first | rfl | simp, (P2.out.sub IT'.out).keep (below_drewN (Below.refl _ _) _), by rw [HX.out]; simp only [List.length_cons]; omega⟩

set_option maxRecDepth 20000 in
set_option maxHeartbeats 4000000 in
theorem pop_snoc_ (w0 w : World) (q g o c : Nat) (l : List ByteArray) (P : PS w0 w q l l g o c) (k i j : Int) (s : ByteArray) (hk : (wrap64 (k.tmod 8 + 8)).tmod 8 = 2) (i0 : -9223372036854775808 ≤ i) (i1 : i ≤ 9223372036854775807) (j0 : -9223372036854775808 ≤ j) (j1 : j ≤ 9223372036854775807) (hs : s.size ≤ 20) (hl : l.length ≤ 300) (x : ByteArray) (r : List ByteArray) (hx : l = r ++ [x]) :
    Calls Try.prog 9 #[.pointer (some ⟨q, 0, none⟩), .slice (some ⟨g, o, none⟩) l.length c, .agg #[.int .i64 k, .int .i64 i, .int .i64 j, .bool false, .string s]] w (Played w0 q l) := by
  have PP := Lib.hid P
  have lc := P.tx.2.1
  have c9 := P.tx.2.2.1
  unfold maxLen at c9
  have bw := P.bel.size
  obtain ⟨n, en⟩ : ∃ n, n = l.length := ⟨_, rfl⟩
  rw [← en] at lc hl ⊢
  have LN := Lib.hid en
  have n0 : (0 : Int) ≤ (n : Int) := by omega
  have n9 : (n : Int) ≤ 300 := by omega
  have nc : (n : Int) ≤ (c : Int) := by omega
  have c0 : (0 : Int) ≤ (c : Int) := by omega
  have AL : Hid (Below w.heap.size w (w.alloc (.cells #[.int .i64 k, .int .i64 i, .int .i64 j, .bool false, .string s] 28))) := (Below.refl _ w).alloc (Nat.le_refl _) _
  obtain ⟨fr, efr⟩ : ∃ fr, fr = front n i := ⟨_, rfl⟩
  obtain ⟨th, eth⟩ : ∃ th, th = there n i := ⟨_, rfl⟩
  have RP : Hid (∀ W, Calls Try.prog 23 #[.int .i64 (n : Int), .int .i64 i] W fun e w' => e = .returned (.tuple #[.int .i64 fr, .bool th]) ∧ w' = W) := fun W => by
    have := rplace_any W n (by omega) i i0 i1
    rwa [← efr, ← eth] at this
  have n1 : (1 : Int) ≤ (n : Int) := by rw [en, hx]; simp; try omega
  have n2 : (0 : Int) < (n : Int) := by omega
  have nz : ¬ ((n : Int) = 0) := by omega
  have PU : Hid (Calls Try.prog 17 #[.pointer (some ⟨q, 0, none⟩), .bool false] (w.alloc (.cells #[.int .i64 k, .int .i64 i, .int .i64 j, .bool false, .string s] 28)) fun e w' => e = .returned (.tuple #[.string x, .bool true]) ∧ PS w0 w' q r l g o c ∧ ∀ b, w.heap.size ≤ b → b < (w.alloc (.cells #[.int .i64 k, .int .i64 i, .int .i64 j, .bool false, .string s] 28)).heap.size → w'.heap[b]? = (w.alloc (.cells #[.int .i64 k, .int .i64 i, .int .i64 j, .bool false, .string s] 28)).heap[b]?) := ps_call PP.out AL.out fun R fi fl => by
    have := pop_any _ q R fi (by rw [fi.num, fl]; have := LN.out; omega) false
    rw [fl, there_pop, decide_eq_true (by have := LN.out; omega)] at this
    rw [hx, (pop_snoc x r).1, (pop_snoc x r).2] at this
    exact this
  obtain ⟨m, em⟩ : ∃ m, m = n - 1 := ⟨_, rfl⟩
  have wm : IntKind.i64.wrap ((n : Int) - 1) = (m : Int) := by rw [IntKind.wrap_i64]; omega
  have m0 : (0 : Int) ≤ (m : Int) := by omega
  have m1 : (m : Int) < (n : Int) := by omega
  have m2 : (m : Int) ≤ (c : Int) := by omega
  have m3 : (m : Int) ≤ (n : Int) := by omega
  have HM : Hid (m = n - 1 ∧ m < n) := by show m = n - 1 ∧ m < n; omega
  clear em
  have lg := P.lt
  have HX := Lib.hid hx
  clear P en efr eth i0 i1 j0 j1 hx
  go_enter Try.func9, Try.ntmps9
  go_wp2_with fail
  go_at_call 23
  with_reducible refine (RP.out _).mono ?_
  rintro e w1 ⟨rfl, rfl⟩
  go_wp2_with fail
  go_at_call 17
  with_reducible refine PU.out.mono ?_
  rintro e w2 ⟨rfl, p2, kb⟩
  have P2 := Lib.hid p2
  have cx : w2.cell? ⟨g, o + m, none⟩ = some (.string x) := by
    obtain ⟨p, e, hc⟩ := P2.out.tx.at_ m (by have := LN.out; have := HM.out; omega)
    injection e with e
    subst e
    rw [show (⟨g, o + m, none⟩ : Addr) = (⟨g, o, none⟩ : Addr).add m by rw [Addr.add_lit], hc]
    have := HX.out
    subst this
    have := HM.out; have := LN.out; simp only [List.length_append, List.length_cons, List.length_nil] at this; have e : m = r.length := by omega
    simp [e]
  clear p2 PU RP PP AL
  have cb : ∀ m, m < 5 → w2.cell? ⟨w.heap.size, m, none⟩ = (#[.int .i64 k, .int .i64 i, .int .i64 j, .bool false, .string s] : Array Value)[m]? := fun m _ => by
    have e := kb w.heap.size (Nat.le_refl _) (by simp)
    rw [World.cell?_of_block e, World.cell?_alloc_new]
  have cb0 : w2.cell? ⟨w.heap.size, 0, none⟩ = some (.int .i64 k) := cb 0 (by decide)
  have cb1 : w2.cell? ⟨w.heap.size, 1, none⟩ = some (.int .i64 i) := cb 1 (by decide)
  have cb2 : w2.cell? ⟨w.heap.size, 2, none⟩ = some (.int .i64 j) := cb 2 (by decide)
  have cb3 : w2.cell? ⟨w.heap.size, 3, none⟩ = some (.bool false) := cb 3 (by decide)
  have cb4 : w2.cell? ⟨w.heap.size, 4, none⟩ = some (.string s) := cb 4 (by decide)
  have kz : w.heap.size < w2.heap.size := by
    obtain ⟨-, e, -⟩ := And.intro trivial (And.intro (kb w.heap.size (Nat.le_refl _) (by simp)) trivial)
    rcases Nat.lt_or_ge w.heap.size w2.heap.size with x | x
    · exact x
    · rw [Array.getElem?_eq_none x, heap_alloc_new] at e; cases e
  clear cb kb
  go_wp2_with fail
  go_quiet (fail)
  go_wp2_with fail
  go_ret2
  have rm : m = r.length := by have h1 := HM.out; have h2 := LN.out; rw [HX.out, List.length_append] at h2; simp only [List.length_cons, List.length_nil] at h2; omega
  have it' := P2.out.tx.part 0 m (by have := HM.out; have := LN.out; omega)
  have e1 : (l.drop 0).take m = r := by rw [HX.out, rm]; simp
  rw [e1] at it'
  have IT' : IsTx w2 (some ⟨g, o, none⟩) r c := it'
  rw [rm]
  exact ⟨r, g, o, c, by first | rfl | simp, (P2.out.sub IT').keep (below_drewN (Below.refl _ _) _), by rw [HX.out]; simp only [List.length_append]; omega⟩

end Go.Proofs.Yteghokakjonblaa
