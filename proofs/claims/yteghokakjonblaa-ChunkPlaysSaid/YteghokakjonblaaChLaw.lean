/- What the laws on rows lean on: a row of the law's own, call by call; texts held against texts; the laws' own check. -/
import Derived.Test.YteghokakjonblaaChEnd
import Derived.Test.YteghokakjonblaaRefTx
namespace Go.Proofs.Yteghokakjonblaa
open Go.RowKit Go.Lib
set_option linter.unusedVariables false
section
variable {w0 w w' : World} {q : Nat} {l : List ByteArray}
theorem Fresh.keep (h : Fresh w0 w q l) (b : Below w.heap.size w w') : Fresh w0 w' q l := by
  obtain ⟨R, fi, fl, fk, fb⟩ := h
  exact ⟨R, ⟨fi.lies.below b, fi.num, fi.nice⟩, fl, fk, below_then fb b⟩
theorem Fresh.mono {w1 : World} (h : Fresh w1 w q l) (b : Below w0.heap.size w0 w1) : Fresh w0 w q l := by
  obtain ⟨R, fi, fl, fk, fb⟩ := h
  exact ⟨R, fi, fl, fun k hk => Nat.le_trans b.size (fk k hk), below_then b fb⟩
theorem Fresh.bel (h : Fresh w0 w q l) : Below w0.heap.size w0 w := by
  obtain ⟨R, fi, fl, fk, fb⟩ := h
  exact fb
theorem f_len (h : Fresh w0 w q l) : Calls Try.prog 10 #[.pointer (some ⟨q, 0, none⟩)] w fun e w' => e = .returned (.int .i64 (l.length : Int)) ∧ w' = w := by
  obtain ⟨R, fi, fl, fk, fb⟩ := h
  have := len_any w q R fi.lies
  rwa [fi.num, fl] at this
theorem f_chunks (h : Fresh w0 w q l) : Calls Try.prog 11 #[.pointer (some ⟨q, 0, none⟩)] w fun e w' => (∃ k : Nat, e = .returned (.int .i64 (k : Int)) ∧ k ≤ l.length / 8 + 1) ∧ w' = w := by
  obtain ⟨R, fi, fl, fk, fb⟩ := h
  refine (chunks_any w q R fi.lies).mono ?_
  rintro e w' ⟨rfl, rfl⟩
  refine ⟨⟨_, rfl, ?_⟩, rfl⟩
  have := fi.nice.few
  rw [← flat_len, fl] at this
  unfold lens at this
  rw [List.length_map] at this
  omega
theorem f_at (h : Fresh w0 w q l) (hl : l.length ≤ 1048576) (i : Int) (i0 : -9223372036854775808 ≤ i) (i1 : i ≤ 9223372036854775807) : Calls Try.prog 21 #[.pointer (some ⟨q, 0, none⟩), .int .i64 i] w fun e w' => e = .returned (.tuple #[.string (atOf l i), .bool (there l.length i)]) ∧ Below w.heap.size w w' := by
  obtain ⟨R, fi, fl, fk, fb⟩ := h
  have := at_any w q R fi.lies fi.num (by rw [fi.num, fl]; omega) i i0 i1
  rwa [fi.num, fl] at this
theorem f_push (h : Fresh w0 w q l) (hl : l.length ≤ 1048575) (b : Bool) (s : ByteArray) (s9 : s.size ≤ 281474976710656) : Calls Try.prog 16 #[.pointer (some ⟨q, 0, none⟩), .bool b, .string s] w fun e w' => e = .returned (.tuple #[]) ∧ Fresh w0 w' q (if b = true then s :: l else l ++ [s]) := by
  obtain ⟨R, fi, fl, fk, fb⟩ := h
  have := push_any w q R fi (by rw [fi.num, fl]; omega) b s s9
  rw [fl] at this
  exact this.mono fun e w' ⟨he, d⟩ => ⟨he, Fresh.did fk fb d⟩
theorem f_pop (h : Fresh w0 w q l) (hl : l.length ≤ 1048576) (b : Bool) : Calls Try.prog 17 #[.pointer (some ⟨q, 0, none⟩), .bool b] w fun e w' => e = .returned (.tuple #[.string (atOf l (popAt b)), .bool (there l.length (popAt b))]) ∧ Fresh w0 w' q (remOf l (popAt b)) := by
  obtain ⟨R, fi, fl, fk, fb⟩ := h
  have := pop_any w q R fi (by rw [fi.num, fl]; omega) b
  rw [fl] at this
  exact this.mono fun e w' ⟨he, d⟩ => ⟨he, Fresh.did fk fb d⟩
theorem f_ins (h : Fresh w0 w q l) (hl : l.length ≤ 1048575) (i : Int) (i0 : -9223372036854775808 ≤ i) (i1 : i ≤ 9223372036854775807) (s : ByteArray) (s9 : s.size ≤ 281474976710656) : Calls Try.prog 19 #[.pointer (some ⟨q, 0, none⟩), .int .i64 i, .string s] w fun e w' => e = .returned (.bool (fits l.length i)) ∧ Fresh w0 w' q (if fits l.length i = true then insAt l i.toNat s else l) := by
  obtain ⟨R, fi, fl, fk, fb⟩ := h
  have := ins_any w q R fi (by rw [fi.num, fl]; omega) i i0 i1 s s9
  rw [fl] at this
  exact this.mono fun e w' ⟨he, d⟩ => ⟨he, Fresh.did fk fb d⟩
theorem f_rem (h : Fresh w0 w q l) (hl : l.length ≤ 1048576) (i : Int) (i0 : -9223372036854775808 ≤ i) (i1 : i ≤ 9223372036854775807) : Calls Try.prog 20 #[.pointer (some ⟨q, 0, none⟩), .int .i64 i] w fun e w' => e = .returned (.tuple #[.string (atOf l i), .bool (there l.length i)]) ∧ Fresh w0 w' q (remOf l i) := by
  obtain ⟨R, fi, fl, fk, fb⟩ := h
  have := rem_any w q R fi (by rw [fi.num, fl]; omega) i i0 i1
  rw [fl] at this
  exact this.mono fun e w' ⟨he, d⟩ => ⟨he, Fresh.did fk fb d⟩
theorem f_slice (h : Fresh w0 w q l) (hl : l.length ≤ 1048576) (i j : Int) (i0 : -9223372036854775808 ≤ i) (i1 : i ≤ 9223372036854775807) (j0 : -9223372036854775808 ≤ j) (j1 : j ≤ 9223372036854775807) : Calls Try.prog 18 #[.pointer (some ⟨q, 0, none⟩), .int .i64 i, .int .i64 j] w fun e w' => ∃ A c, e = .returned (.slice A (cut l i j).length c) ∧ IsTx w' A (cut l i j) c ∧ Below w.heap.size w w' := by
  obtain ⟨R, fi, fl, fk, fb⟩ := h
  have := slice_any w q R fi (by rw [fi.num, fl]; omega) i j i0 i1 j0 j1
  rw [fl] at this
  refine this.mono fun e w' ⟨v, he, ow, b⟩ => ?_
  obtain ⟨A, c, rfl, itx, _⟩ := ow.slice
  exact ⟨A, c, he, itx, b⟩
theorem f_all (h : Fresh w0 w q l) (hl : l.length ≤ 1048576) : Calls Try.prog 13 #[.pointer (some ⟨q, 0, none⟩)] w fun e w' => ∃ A c, e = .returned (.slice A l.length c) ∧ IsTx w' A l c ∧ Below w.heap.size w w' := by
  obtain ⟨R, fi, fl, fk, fb⟩ := h
  have := all_any w q R fi (by rw [fi.num, fl]; omega)
  rw [fl] at this
  refine this.mono fun e w' ⟨v, he, ow, b⟩ => ?_
  obtain ⟨A, c, rfl, itx, _⟩ := ow.slice
  exact ⟨A, c, he, itx, b⟩
/-- The texts when one is replaced. -/
def setOf (l : List ByteArray) (i : Int) (s : ByteArray) : List ByteArray := if there l.length i = true then l.set (front l.length i).toNat s else l
theorem set_flat (a b l : List ByteArray) (k : Nat) (s : ByteArray) (h : k < l.length) : (a ++ (l ++ b)).set (a.length + k) s = a ++ (l.set k s ++ b) := by
  rw [List.set_append_right _ _ (by omega), Nat.add_sub_cancel_left, List.set_append_left _ _ h]
theorem set_did (w : World) (q : Nat) (R : Ch) (h : Fine w q R) (hs : R.n ≤ 1048576) (i : Int) (i0 : -9223372036854775808 ≤ i) (i1 : i ≤ 9223372036854775807) (s : ByteArray) (s9 : s.size ≤ 281474976710656) :
    Calls Try.prog 22 #[.pointer (some ⟨q, 0, none⟩), .int .i64 i, .string s] w fun e w' => e = .returned (.bool (there (flat R.cs).length i)) ∧ Did w q R w' (setOf (flat R.cs) i s) := by
  have k := set_any w q R h.lies h.num (by omega) i i0 i1 s s9
  unfold setOf
  rw [← h.num]
  refine k.mono ?_
  rintro e w' ⟨rfl, hc⟩
  refine ⟨rfl, ?_⟩
  rcases hc with ⟨hf, hb⟩ | ⟨hth, pre, c, post, at_, w1, fo, lt, hb, rfl⟩
  · rw [hf, if_neg (by simp)]
    exact Did.none h hb
  · have l1 := h.lies.below hb
    have ck : CkAt w1 c := l1.ck c (by rw [fo.1]; simp)
    have cl := ck.len
    rw [List.length_map] at cl
    have s1 : CkAt (w1.setCell ⟨c.b, c.off + at_, none⟩ (.string s)) ⟨c.b, c.off, c.cap, c.l.set at_ s⟩ := by
      have := ck.lay at_ [.string s] ((c.l.set at_ s).map Value.string) (fun v hv => by simp at hv; subst hv; rfl) (by show at_ + 1 ≤ c.cap; omega) (by simp; omega) (fun t v ht => by
        rw [List.getElem?_map, List.getElem?_set] at ht
        split at ht
        · rename_i e2
          subst e2
          exact .inl ⟨Nat.le_refl _, by rw [Nat.sub_self]; exact ht⟩
        · rename_i e2
          refine .inr ⟨?_, by rw [List.getElem?_map]; exact ht⟩
          show t < at_ ∨ at_ + 1 ≤ t
          omega)
      exact this
    have t1 : Turn c.rng w1 (w1.setCell ⟨c.b, c.off + at_, none⟩ (.string s)) := Turn.set (D := c.rng) w1 ⟨rfl, by show c.off ≤ c.off + at_; omega, by show c.off + at_ < c.off + c.cap; omega⟩ _
    have st := l1.swap fo.1 t1 s1 (by unfold ckv; simp) rfl (fun a ha => ha)
    rw [if_pos hth]
    obtain ⟨k, hk, hlt⟩ := there_is hth
    have e2 := fo.2.1
    rw [hk, Int.toNat_natCast] at e2 ⊢
    refine ⟨_, (Step.refl h.lies hb).trans st, ⟨st.lies, ?_, ?_⟩, ?_⟩
    · show R.n = (flat (pre ++ _ :: post)).length
      rw [h.num, fo.1, flat_mid, flat_mid]; simp
    · show Nice (lens (pre ++ _ :: post))
      have := h.nice
      rw [fo.1, lens_mid] at this
      rw [lens_mid]; simpa using this
    · show flat (pre ++ _ :: post) = _
      rw [flat_mid, fo.1, flat_mid, e2, set_flat _ _ _ _ _ lt]
theorem f_set (h : Fresh w0 w q l) (hl : l.length ≤ 1048576) (i : Int) (i0 : -9223372036854775808 ≤ i) (i1 : i ≤ 9223372036854775807) (s : ByteArray) (s9 : s.size ≤ 281474976710656) : Calls Try.prog 22 #[.pointer (some ⟨q, 0, none⟩), .int .i64 i, .string s] w fun e w' => e = .returned (.bool (there l.length i)) ∧ Fresh w0 w' q (setOf l i s) := by
  obtain ⟨R, fi, fl, fk, fb⟩ := h
  have := set_did w q R fi (by rw [fi.num, fl]; omega) i i0 i1 s s9
  rw [fl] at this
  exact this.mono fun e w' ⟨he, d⟩ => ⟨he, Fresh.did fk fb d⟩
end
def l3 : List ByteArray := [⟨#[97]⟩, ⟨#[98]⟩, ⟨#[99]⟩]
def l2 : List ByteArray := [⟨#[98]⟩, ⟨#[99]⟩]
def l4 : List ByteArray := [⟨#[97]⟩, ⟨#[98]⟩, ⟨#[99]⟩, ⟨#[100]⟩]
theorem cut3 : cut l3 (-2) 9 = l2 := by rfl
theorem ins3 : (if fits l3.length 3 = true then insAt l3 (3 : Int).toNat ⟨#[100]⟩ else l3) = l4 := by rfl
theorem set3 : setOf l3 3 ⟨#[120]⟩ = l3 := by rfl
set_option maxHeartbeats 1000000 in
theorem told_any (w : World) : Calls Try.prog 7 #[] w fun e w' => e = .returned (.bool true) ∧ Below w.heap.size w w' := by
  have q0 := run_nil_row
  have b0 : Below w.heap.size w (w.alloc (.cells #[.string ⟨#[97]⟩, .string ⟨#[98]⟩, .string ⟨#[99]⟩] 9)) := (Below.refl _ w).alloc (Nat.le_refl _) _
  have OF : Hid (Calls Try.prog 8 #[.slice (some ⟨w.heap.size, 0, none⟩) 3 3] (w.alloc (.cells #[.string ⟨#[97]⟩, .string ⟨#[98]⟩, .string ⟨#[99]⟩] 9)) fun e w' => ∃ q, e = .returned (.pointer (some ⟨q, 0, none⟩)) ∧ Fresh w w' q l3) := by
    refine Calls.mono (of_any (w.alloc (.cells #[.string ⟨#[97]⟩, .string ⟨#[98]⟩, .string ⟨#[99]⟩] 9)) (some ⟨w.heap.size, 0, none⟩) l3 3 (isTx_new w l3 9 (by decide)) (by decide) (fun s hs => ?_)) ?_
    · simp only [l3, List.mem_cons, List.not_mem_nil, or_false] at hs
      rcases hs with rfl | rfl | rfl <;> decide
    · rintro e w' ⟨q, he, f⟩
      exact ⟨q, he, f.mono b0⟩
  clear b0
  go_enter Try.func7, Try.ntmps7
  go_wp2_with fail
  go_at_call 8
  with_reducible refine OF.out.mono ?_
  rintro e w1 ⟨q, rfl, f1⟩
  have F1 := Lib.hid f1
  clear f1
  have C1 : Hid (Calls Try.prog 21 #[.pointer (some ⟨q, 0, none⟩), .int .i64 (-1)] w1 fun e w' => e = .returned (.tuple #[.string ⟨#[99]⟩, .bool true]) ∧ Below w1.heap.size w1 w') := f_at F1.out (by decide) (-1) (by decide) (by decide)
  go_wp2_with fail
  go_at_call 21
  with_reducible refine C1.out.mono ?_
  rintro e w2 ⟨rfl, hb2⟩
  have F2 := Lib.hid (F1.out.keep hb2)
  clear hb2
  have C2 := Lib.hid (f_slice F2.out (by decide) (-2) 9 (by decide) (by decide) (by decide) (by decide))
  rw [cut3, show l2.length = 2 from rfl] at C2
  go_wp2_with fail
  go_at_call 18
  with_reducible refine C2.out.mono ?_
  rintro e w3 ⟨A, c, rfl, itx, hb3⟩
  have F3 := Lib.hid (F2.out.keep hb3)
  have C3 : Hid (Calls Try.prog 12 #[.slice A 2 c, .slice (some ⟨w3.heap.size, 0, none⟩) 2 2] (w3.alloc (.cells #[.string ⟨#[98]⟩, .string ⟨#[99]⟩] 9)) fun e w' => e = .returned (.bool true) ∧ Below (w3.alloc (.cells #[.string ⟨#[98]⟩, .string ⟨#[99]⟩] 9)).heap.size (w3.alloc (.cells #[.string ⟨#[98]⟩, .string ⟨#[99]⟩] 9)) w') := by
    have := texts_any (w3.alloc (.cells #[.string ⟨#[98]⟩, .string ⟨#[99]⟩] 9)) A (some ⟨w3.heap.size, 0, none⟩) l2 l2 c 2 (itx.keep ((Below.refl _ w3).alloc (Nat.le_refl _) _)) (isTx_new w3 l2 9 (by decide))
    rw [decide_eq_true (rfl : l2 = l2)] at this
    exact this
  clear itx hb3
  go_wp2_with fail
  go_at_call 12
  with_reducible refine C3.out.mono ?_
  rintro e w4 ⟨rfl, hb4⟩
  have F4 := Lib.hid ((F3.out.keep ((Below.refl _ w3).alloc (Nat.le_refl _) _)).keep hb4)
  clear hb4
  have C4 := Lib.hid (f_len F4.out)
  rw [show (l3.length : Int) = 3 from rfl] at C4
  go_wp2_with fail
  go_at_call 10
  with_reducible refine C4.out.mono ?_
  rintro e w5 ⟨rfl, rfl⟩
  have C5 := Lib.hid (f_set F4.out (by decide) 3 (by decide) (by decide) ⟨#[120]⟩ (by decide))
  rw [set3, show there l3.length 3 = false from rfl] at C5
  go_wp2_with fail
  go_at_call 22
  with_reducible refine C5.out.mono ?_
  rintro e w6 ⟨rfl, f6⟩
  have F6 := Lib.hid f6
  clear f6
  have C6 := Lib.hid (f_ins F6.out (by decide) 3 (by decide) (by decide) ⟨#[100]⟩ (by decide))
  rw [ins3, show fits l3.length 3 = true from rfl] at C6
  go_wp2_with fail
  go_at_call 19
  with_reducible refine C6.out.mono ?_
  rintro e w7 ⟨rfl, f7⟩
  have F7 := Lib.hid f7
  clear f7
  have C7 := Lib.hid (f_len F7.out)
  rw [show (l4.length : Int) = 4 from rfl] at C7
  go_wp2_with fail
  go_at_call 10
  with_reducible refine C7.out.mono ?_
  rintro e w8 ⟨rfl, rfl⟩
  go_wp2_with fail
  go_ret
  exact ⟨rfl, F7.out.bel⟩
end Go.Proofs.Yteghokakjonblaa
