/- Package chunk: what is left: nothing to slice, All, New, Push, Pop, Of. -/
import Derived.Test.YteghokakjonblaaChSlice
namespace Go.Proofs.Yteghokakjonblaa
open Go.RowKit Go.Lib
set_option linter.unusedVariables false
set_option maxHeartbeats 2000000 in
theorem slice_none (w : World) (q : Nat) (R : Ch) (h : Lies w q R) (hs : R.n ≤ 1048576) (i j : Int) (i0 : -9223372036854775808 ≤ i) (i1 : i ≤ 9223372036854775807) (j0 : -9223372036854775808 ≤ j) (j1 : j ≤ 9223372036854775807)
    (a b : Int) (ea : max (front R.n i) 0 = a) (eb : min (front R.n j) ((R.n : Int) - 1) = b) (hab : b < a) :
    Calls Try.prog 18 #[.pointer (some ⟨q, 0, none⟩), .int .i64 i, .int .i64 j] w fun e w' => e = .returned (.slice none 0 0) ∧ w' = w := by
  have F1 := Lib.hid (front_any w q R h i i0 i1 (by omega))
  have F2 := Lib.hid (front_any w q R h j j0 j1 (by omega))
  have LN := Lib.hid (len_any w q R h)
  have mx := run_max_is _ _ ea
  have mn := run_min_is _ _ _ eb
  obtain ⟨n, en⟩ : ∃ n, n = R.n := ⟨_, rfl⟩
  obtain ⟨f, ef⟩ : ∃ f, f = front R.n i := ⟨_, rfl⟩
  obtain ⟨g, eg⟩ : ∃ g, g = front R.n j := ⟨_, rfl⟩
  rw [← ef] at F1 mx
  rw [← eg] at F2 mn
  rw [← en] at LN mn hs
  have n1 : (n : Int) ≤ 1048576 := by omega
  have n0 : (0 : Int) ≤ (n : Int) := by omega
  clear h ea eb en ef eg hs
  go_enter Try.func18, Try.ntmps18
  go_wp2_with fail
  go_at_call 25
  with_reducible refine F1.out.mono ?_
  rintro e w1 ⟨rfl, rfl⟩
  go_wp2_with fail
  go_at_call 25
  with_reducible refine F2.out.mono ?_
  rintro e w2 ⟨rfl, rfl⟩
  go_wp2_with fail
  go_at_call 10
  with_reducible refine LN.out.mono ?_
  rintro e w3 ⟨rfl, rfl⟩
  go_wp2_with fail
  go_ret
  exact ⟨rfl, rfl⟩
theorem slice_any (w : World) (q : Nat) (R : Ch) (h : Fine w q R) (hs : R.n ≤ 1048576) (i j : Int) (i0 : -9223372036854775808 ≤ i) (i1 : i ≤ 9223372036854775807) (j0 : -9223372036854775808 ≤ j) (j1 : j ≤ 9223372036854775807) :
    Calls Try.prog 18 #[.pointer (some ⟨q, 0, none⟩), .int .i64 i, .int .i64 j] w fun e w' => ∃ v, e = .returned v ∧ OwnTx w.heap.size w' v (cut (flat R.cs) i j) ∧ Below w.heap.size w w' := by
  unfold cut
  rw [← h.num]
  by_cases hab : min (front R.n j) ((R.n : Int) - 1) < max (front R.n i) 0
  · rw [if_pos hab]
    refine (slice_none w q R h.lies hs i j i0 i1 j0 j1 _ _ rfl rfl hab).mono ?_
    rintro e w' ⟨rfl, rfl⟩
    exact ⟨_, rfl, ⟨rfl, .inl ⟨rfl, rfl⟩⟩, Below.refl _ _⟩
  · rw [if_neg hab]
    exact slice_some w q R h hs i j i0 i1 j0 j1 (max (front R.n i) 0).toNat (min (front R.n j) ((R.n : Int) - 1)).toNat (by omega) (by omega) (by omega) (by omega)
theorem cut_all (l : List ByteArray) : cut l 0 (-1) = l := by
  have f0 : front l.length 0 = 0 := by unfold front; rw [if_neg (by omega)]
  have f1 : front l.length (-1) = (l.length : Int) - 1 := by unfold front; rw [if_pos (by omega)]; omega
  unfold cut
  rw [f0, f1]
  by_cases e : l.length = 0
  · rw [List.length_eq_zero_iff.1 e]; rfl
  · rw [if_neg (by omega), show (max (0 : Int) 0).toNat = 0 from rfl, List.drop_zero, List.take_of_length_le]
    omega
theorem all_any (w : World) (q : Nat) (R : Ch) (h : Fine w q R) (hs : R.n ≤ 1048576) :
    Calls Try.prog 13 #[.pointer (some ⟨q, 0, none⟩)] w fun e w' => ∃ v, e = .returned v ∧ OwnTx w.heap.size w' v (flat R.cs) ∧ Below w.heap.size w w' := by
  have S := Lib.hid (slice_any w q R h hs 0 (-1) (by decide) (by decide) (by decide) (by decide))
  rw [cut_all] at S
  clear h
  go_enter Try.func13, Try.ntmps13
  go_wp2_with fail
  go_at_call 18
  with_reducible refine S.out.mono ?_
  rintro e w1 ⟨v, rfl, ow, hb⟩
  have X := Lib.hid (And.intro ow hb)
  clear ow hb
  go_wp2_with fail
  go_ret
  exact ⟨_, rfl, X.out.1, X.out.2⟩
/-- A place to insert at, whatever it is. -/
theorem ins_any (w : World) (q : Nat) (R : Ch) (h : Fine w q R) (hs : R.n ≤ 1048575) (i : Int) (i0 : -9223372036854775808 ≤ i) (i1 : i ≤ 9223372036854775807) (s : ByteArray) (s9 : s.size ≤ 281474976710656) :
    Calls Try.prog 19 #[.pointer (some ⟨q, 0, none⟩), .int .i64 i, .string s] w fun e w' => e = .returned (.bool (fits (flat R.cs).length i)) ∧ Did w q R w' (if fits (flat R.cs).length i = true then insAt (flat R.cs) i.toNat s else flat R.cs) := by
  rw [← h.num]
  cases hf : fits R.n i
  · rw [if_neg (by simp)]
    refine (ins_none w q R h (by omega) i i0 i1 s hf).mono ?_
    rintro e w' ⟨rfl, hb⟩
    exact ⟨rfl, Did.none h hb⟩
  · rw [if_pos rfl]
    unfold fits at hf
    obtain ⟨a, b⟩ := of_decide_eq_true hf
    have k := ins_some w q R h hs i.toNat (by omega) s s9
    rwa [Int.toNat_of_nonneg a] at k
theorem push_any (w : World) (q : Nat) (R : Ch) (h : Fine w q R) (hs : R.n ≤ 1048575) (b : Bool) (s : ByteArray) (s9 : s.size ≤ 281474976710656) :
    Calls Try.prog 16 #[.pointer (some ⟨q, 0, none⟩), .bool b, .string s] w fun e w' => e = .returned (.tuple #[]) ∧ Did w q R w' (if b = true then s :: flat R.cs else flat R.cs ++ [s]) := by
  have LN := Lib.hid (len_any w q R h.lies)
  have I0 := Lib.hid (ins_some w q R h hs 0 (Nat.zero_le _) s s9)
  have I1 := Lib.hid (ins_some w q R h hs R.n (Nat.le_refl _) s s9)
  have z0 : insAt (flat R.cs) 0 s = s :: flat R.cs := rfl
  have z1 : insAt (flat R.cs) R.n s = flat R.cs ++ [s] := by rw [h.num]; exact insAt_end _ _
  rw [z0, show ((0 : Nat) : Int) = 0 from rfl] at I0
  rw [z1] at I1
  obtain ⟨n, en⟩ : ∃ n, n = R.n := ⟨_, rfl⟩
  rw [← en] at LN I1
  clear h hs z0 z1 en
  cases b
  · rw [if_neg (by simp)]
    go_enter Try.func16, Try.ntmps16
    go_wp2_with fail
    go_at_call 10
    with_reducible refine LN.out.mono ?_
    rintro e w1 ⟨rfl, rfl⟩
    go_wp2_with fail
    go_at_call 19
    with_reducible refine I1.out.mono ?_
    rintro e w2 ⟨rfl, d⟩
    have DD := Lib.hid d
    clear d
    go_wp2_with fail
    go_end0
    exact ⟨rfl, DD.out⟩
  · rw [if_pos rfl]
    go_enter Try.func16, Try.ntmps16
    go_wp2_with fail
    go_at_call 19
    with_reducible refine I0.out.mono ?_
    rintro e w2 ⟨rfl, d⟩
    have DD := Lib.hid d
    clear d
    go_wp2_with fail
    go_end0
    exact ⟨rfl, DD.out⟩
/-- The place that Pop takes. -/
def popAt (b : Bool) : Int := if b = true then 0 else -1
theorem pop_any (w : World) (q : Nat) (R : Ch) (h : Fine w q R) (hs : R.n ≤ 1048576) (b : Bool) :
    Calls Try.prog 17 #[.pointer (some ⟨q, 0, none⟩), .bool b] w fun e w' => e = .returned (.tuple #[.string (atOf (flat R.cs) (popAt b)), .bool (there (flat R.cs).length (popAt b))]) ∧ Did w q R w' (remOf (flat R.cs) (popAt b)) := by
  have RM := Lib.hid (rem_any w q R h hs (popAt b) (by cases b <;> decide) (by cases b <;> decide))
  clear h hs
  cases b
  · rw [show popAt false = -1 from rfl] at RM ⊢
    obtain ⟨x, ex⟩ : ∃ x, x = atOf (flat R.cs) (-1) := ⟨_, rfl⟩
    obtain ⟨y, ey⟩ : ∃ y, y = there (flat R.cs).length (-1) := ⟨_, rfl⟩
    rw [← ex, ← ey] at RM ⊢
    clear ex ey
    go_enter Try.func17, Try.ntmps17
    go_wp2_with fail
    go_at_call 20
    with_reducible refine RM.out.mono ?_
    rintro e w2 ⟨rfl, d⟩
    have DD := Lib.hid d
    clear d
    go_wp2_with fail
    go_ret2
    exact ⟨rfl, DD.out⟩
  · rw [show popAt true = 0 from rfl] at RM ⊢
    obtain ⟨x, ex⟩ : ∃ x, x = atOf (flat R.cs) 0 := ⟨_, rfl⟩
    obtain ⟨y, ey⟩ : ∃ y, y = there (flat R.cs).length 0 := ⟨_, rfl⟩
    rw [← ex, ← ey] at RM ⊢
    clear ex ey
    go_enter Try.func17, Try.ntmps17
    go_wp2_with fail
    go_at_call 20
    with_reducible refine RM.out.mono ?_
    rintro e w2 ⟨rfl, d⟩
    have DD := Lib.hid d
    clear d
    go_wp2_with fail
    go_ret2
    exact ⟨rfl, DD.out⟩
theorem fine_new (w : World) (t : TypeId) : Fine (w.alloc (.cells #[.slice none 0 0, .int .i64 0] t)) w.heap.size ⟨none, 0, [], 0⟩ :=
  ⟨⟨by rw [World.cell?_alloc_new]; rfl, by rw [World.cell?_alloc_new]; rfl, fun i => World.frozen?_alloc_new w _ t i, by rw [ne_alloc]; omega, fun _ => ⟨rfl, rfl⟩, (fun B e => nomatch e), (fun B e => nomatch e), (fun c hc => nomatch hc), (fun c hc => nomatch hc), (fun B e => nomatch e), List.Pairwise.nil⟩, rfl, ⟨(fun n hn => nomatch hn), trivial⟩⟩
/-- A new row, in new blocks. -/
def Fresh (w w' : World) (q : Nat) (l : List ByteArray) : Prop := ∃ R, Fine w' q R ∧ flat R.cs = l ∧ (∀ k, inRow q R k → w.heap.size ≤ k) ∧ Below w.heap.size w w'
theorem Fresh.did {w w1 w2 : World} {q : Nat} {R : Ch} {l : List ByteArray} (h : ∀ k, inRow q R k → w.heap.size ≤ k) (b : Below w.heap.size w w1) (d : Did w1 q R w2 l) : Fresh w w2 q l := by
  obtain ⟨R', st, fi, fl⟩ := d
  refine ⟨R', fi, fl, fun k hk => ?_, ?_⟩
  · rcases st.sub k hk with x | x
    · exact h k x
    · exact Nat.le_trans b.size x
  · exact b.trans ((st.turn.only (F := inRow q R) fun a e => e).below h b.size)
theorem new_any (w : World) : Calls Try.prog 14 #[] w fun e w' => ∃ q, e = .returned (.pointer (some ⟨q, 0, none⟩)) ∧ Fresh w w' q [] := by
  go_enter Try.func14, Try.ntmps14
  go_wp2_with fail
  go_ret
  refine ⟨_, rfl, _, fine_new w _, rfl, fun k hk => ?_, (Below.refl _ _).alloc (Nat.le_refl _) _⟩
  rcases hk with x | x | ⟨c, hc, _⟩
  · omega
  · cases x
  · cases hc
set_option maxHeartbeats 1000000 in
theorem of_any (w : World) (A : Option Addr) (l : List ByteArray) (c : Nat) (h : IsTx w A l c) (hl : l.length ≤ 1048575) (hs : ∀ s ∈ l, s.size ≤ 281474976710656) :
    Calls Try.prog 8 #[.slice A l.length c] w fun e w' => ∃ q, e = .returned (.pointer (some ⟨q, 0, none⟩)) ∧ Fresh w w' q l := by
  have NW := Lib.hid (new_any w)
  have H := Lib.hid h
  have HS := Lib.hid hs
  obtain ⟨n, en⟩ : ∃ n, n = l.length := ⟨_, rfl⟩
  have EN := Lib.hid en
  rw [← en] at hl ⊢
  have n1 : (n : Int) ≤ 1048575 := by omega
  have n0 : (0 : Int) ≤ (n : Int) := by omega
  clear h hs en
  go_enter Try.func8, Try.ntmps8
  go_wp2_with fail
  go_at_call 14
  with_reducible refine NW.out.mono ?_
  rintro e w1 ⟨q, rfl, f0⟩
  have F0 := Lib.hid f0
  clear f0
  go_wp2_with fail
  go_loopw [5, 9] (fun _ i wr => ∃ j : Nat, j ≤ n ∧ i = .int .i64 (j : Int) ∧ Fresh w wr q (l.take j)) (fun _ i _ => n - (RowKit.intOf i).toNat)
  case atStart => exact ⟨0, Nat.zero_le _, rfl, by rw [List.take_zero]; exact F0.out⟩
  case round =>
    obtain ⟨j, hj, rfl, fr⟩ := hrel
    have j0 : (0 : Int) ≤ (j : Int) := by omega
    by_cases lt : j < n
    · have lt' : (j : Int) < (n : Int) := by omega
      have jl : j < l.length := by rw [← EN.out]; exact lt
      obtain ⟨R, fi, fl, fk, fb⟩ := fr
      obtain ⟨p, eA, pb, pc⟩ := H.out.2.2.2 j (by simpa using jl)
      rw [List.getElem_map] at pc
      have cj : wr.cell? (p.add j) = some (.string l[j]) := by rw [fb.cell (by rw [add_block]; exact pb)]; exact pc
      have PU := Lib.hid (push_any wr q R fi (by rw [fi.num, fl, List.length_take]; omega) false l[j] (HS.out _ (List.getElem_mem jl)))
      obtain ⟨s, es⟩ : ∃ s, s = l[j] := ⟨_, rfl⟩
      rw [← es] at cj PU
      have FF : Hid (∀ w', Did wr q R w' (if false = true then s :: flat R.cs else flat R.cs ++ [s]) → Fresh w w' q (l.take (j + 1))) := fun w' d => by
        rw [if_neg (by simp), fl, es] at d
        rw [List.take_add_one, List.getElem?_eq_getElem jl]
        exact Fresh.did fk fb d
      have LT := Lib.hid lt
      subst eA
      obtain ⟨pb', po, ps⟩ := p
      clear fi fl fk fb pb pc es jl hj lt
      go_wp2_with fail
      go_at_call 16
      with_reducible refine PU.out.mono ?_
      rintro e w2 ⟨rfl, d⟩
      have DD := Lib.hid (FF.out _ d)
      clear d
      go_wp2_with fail
      go_roundw
      case rel => exact ⟨j + 1, by have := LT.out; omega, by go_num, DD.out⟩
      case measure => have := LT.out; simp [RowKit.intOf]; omega
    · have ge : (n : Int) ≤ (j : Int) := by omega
      rw [List.take_of_length_le (by rw [← EN.out]; omega)] at fr
      have FR := Lib.hid fr
      clear fr
      go_wp2_with fail
      go_ret
      exact ⟨_, rfl, FR.out⟩
end Go.Proofs.Yteghokakjonblaa
