/- The law's play: any op. -/
import Derived.Test.YteghokakjonblaaChPlB
import Derived.Test.YteghokakjonblaaChPlC
import Derived.Test.YteghokakjonblaaChPlD
import Derived.Test.YteghokakjonblaaChPlE
import Derived.Test.YteghokakjonblaaChPlF
import Derived.Test.YteghokakjonblaaChPlG
import Derived.Test.YteghokakjonblaaChPlH
import Derived.Test.YteghokakjonblaaChRefPl
import Derived.Deep.RegionHeld3
namespace Go.Proofs.Yteghokakjonblaa
open Go.RowKit Go.Lib
set_option linter.unusedVariables false
theorem kind_eight (k : Int) : ∃ m : Nat, m < 8 ∧ (wrap64 (k.tmod 8 + 8)).tmod 8 = (m : Int) := by
  have h1 : k.tmod 8 < 8 := Int.tmod_lt_of_pos k (by omega)
  have h2 : -8 < k.tmod 8 := Int.lt_tmod_of_pos k (by omega)
  generalize k.tmod 8 = t at *
  have h3 : wrap64 (t + 8) = t + 8 := by unfold wrap64; omega
  rw [h3, Int.tmod_eq_emod_of_nonneg (by omega)]
  exact ⟨((t + 8) % 8).toNat, by omega, by omega⟩
theorem snoc_or {l : List ByteArray} (h : l ≠ []) : ∃ x r, l = r ++ [x] := ⟨l.getLast h, l.dropLast, (List.dropLast_concat_getLast h).symm⟩
theorem ins_any_4 (w0 w : World) (q g o c : Nat) (l : List ByteArray) (P : PS w0 w q l l g o c) (k i j : Int) (f : Bool) (s : ByteArray) (hk : (wrap64 (k.tmod 8 + 8)).tmod 8 = 4) (i0 : -9223372036854775808 ≤ i) (i1 : i ≤ 9223372036854775807) (j0 : -9223372036854775808 ≤ j) (j1 : j ≤ 9223372036854775807) (hs : s.size ≤ 20) (hl : l.length ≤ 300) :
    Calls Try.prog 9 #[.pointer (some ⟨q, 0, none⟩), .slice (some ⟨g, o, none⟩) l.length c, .agg #[.int .i64 k, .int .i64 i, .int .i64 j, .bool f, .string s]] w (Played w0 q l) := by
  rcases Int.lt_or_le i 0 with h | h
  · exact ins_4_low w0 w q g o c l P k i j f s hk i0 i1 j0 j1 hs hl h
  · rcases Int.lt_or_le (l.length : Int) i with h2 | h2
    · exact ins_4_high w0 w q g o c l P k i j f s hk i0 i1 j0 j1 hs hl h2
    · exact ins_4_in w0 w q g o c l P k i j f s hk i0 i1 j0 j1 hs hl i.toNat (by omega) (by omega)
theorem ins_any_5 (w0 w : World) (q g o c : Nat) (l : List ByteArray) (P : PS w0 w q l l g o c) (k i j : Int) (f : Bool) (s : ByteArray) (hk : (wrap64 (k.tmod 8 + 8)).tmod 8 = 5) (i0 : -9223372036854775808 ≤ i) (i1 : i ≤ 9223372036854775807) (j0 : -9223372036854775808 ≤ j) (j1 : j ≤ 9223372036854775807) (hs : s.size ≤ 20) (hl : l.length ≤ 300) :
    Calls Try.prog 9 #[.pointer (some ⟨q, 0, none⟩), .slice (some ⟨g, o, none⟩) l.length c, .agg #[.int .i64 k, .int .i64 i, .int .i64 j, .bool f, .string s]] w (Played w0 q l) := by
  rcases Int.lt_or_le i 0 with h | h
  · exact ins_5_low w0 w q g o c l P k i j f s hk i0 i1 j0 j1 hs hl h
  · rcases Int.lt_or_le (l.length : Int) i with h2 | h2
    · exact ins_5_high w0 w q g o c l P k i j f s hk i0 i1 j0 j1 hs hl h2
    · exact ins_5_in w0 w q g o c l P k i j f s hk i0 i1 j0 j1 hs hl i.toNat (by omega) (by omega)
/-- An op of any kind: the list and the row hold the same again. -/
theorem play_any (w0 w : World) (q g o c : Nat) (l : List ByteArray) (P : PS w0 w q l l g o c) (k i j : Int) (f : Bool) (s : ByteArray) (i0 : -9223372036854775808 ≤ i) (i1 : i ≤ 9223372036854775807) (j0 : -9223372036854775808 ≤ j) (j1 : j ≤ 9223372036854775807) (hs : s.size ≤ 20) (hl : l.length ≤ 300) :
    Calls Try.prog 9 #[.pointer (some ⟨q, 0, none⟩), .slice (some ⟨g, o, none⟩) l.length c, .agg #[.int .i64 k, .int .i64 i, .int .i64 j, .bool f, .string s]] w (Played w0 q l) := by
  obtain ⟨m, hm, hk⟩ := kind_eight k
  rcases (by omega : m = 0 ∨ m = 1 ∨ m = 2 ∨ m = 3 ∨ m = 4 ∨ m = 5 ∨ m = 6 ∨ m = 7) with rfl | rfl | rfl | rfl | rfl | rfl | rfl | rfl
  · cases f
    · exact push_0_false w0 w q g o c l P k i j s hk i0 i1 j0 j1 hs hl
    · exact push_0_true w0 w q g o c l P k i j s hk i0 i1 j0 j1 hs hl
  · cases f
    · exact push_1_false w0 w q g o c l P k i j s hk i0 i1 j0 j1 hs hl
    · exact push_1_true w0 w q g o c l P k i j s hk i0 i1 j0 j1 hs hl
  · by_cases e : l = []
    · exact pop_nil_ w0 w q g o c l P k i j f s hk i0 i1 j0 j1 hs hl e
    · cases f
      · obtain ⟨x, r, hx⟩ := snoc_or e
        exact pop_snoc_ w0 w q g o c l P k i j s hk i0 i1 j0 j1 hs hl x r hx
      · obtain ⟨x, r, hx⟩ := List.exists_cons_of_ne_nil e
        exact pop_cons_ w0 w q g o c l P k i j s hk i0 i1 j0 j1 hs hl x r hx
  · cases e : there l.length i
    · exact set_out w0 w q g o c l P k i j f s hk i0 i1 j0 j1 hs hl e
    · exact set_in w0 w q g o c l P k i j f s hk i0 i1 j0 j1 hs hl e
  · exact ins_any_4 w0 w q g o c l P k i j f s hk i0 i1 j0 j1 hs hl
  · exact ins_any_5 w0 w q g o c l P k i j f s hk i0 i1 j0 j1 hs hl
  · cases e : there l.length i
    · exact rem_out w0 w q g o c l P k i j f s hk i0 i1 j0 j1 hs hl e
    · exact rem_in w0 w q g o c l P k i j f s hk i0 i1 j0 j1 hs hl e
  · cases e : there l.length i
    · exact slc_out w0 w q g o c l P k i j f s hk i0 i1 j0 j1 hs hl e
    · exact slc_in w0 w q g o c l P k i j f s hk i0 i1 j0 j1 hs hl e
end Go.Proofs.Yteghokakjonblaa
