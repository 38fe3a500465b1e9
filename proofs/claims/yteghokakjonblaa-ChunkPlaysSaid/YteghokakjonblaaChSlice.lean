/- Package chunk: Slice, All. -/
import Derived.Test.YteghokakjonblaaChRem
import Derived.Test.YteghokakjonblaaOwnTx
namespace Go.Proofs.Yteghokakjonblaa
open Go.RowKit Go.Lib
set_option linter.unusedVariables false
/-- The texts from a place to a place. -/
def cut (l : List ByteArray) (i j : Int) : List ByteArray :=
  if min (front l.length j) ((l.length : Int) - 1) < max (front l.length i) 0 then [] else (l.drop (max (front l.length i) 0).toNat).take ((min (front l.length j) ((l.length : Int) - 1)).toNat - (max (front l.length i) 0).toNat + 1)
theorem run_max_is (f a : Int) (h : max f 0 = a) : ∀ (W : World) (ts : Array TypeId) (t : TypeId), (Builtin.max_ ts t #[.int .i64 f, .int .i64 0]).run Try.prog W = .ok (.int .i64 a) W := fun W ts t => by
  rw [run_max_int2, ← h]
  congr 2
  split <;> omega
theorem run_min_is (f g a : Int) (h : min f g = a) : ∀ (W : World) (ts : Array TypeId) (t : TypeId), (Builtin.min_ ts t #[.int .i64 f, .int .i64 g]).run Try.prog W = .ok (.int .i64 a) W := fun W ts t => by
  rw [run_min_int2, ← h]
  congr 2
  split <;> omega
theorem drop_flat {pre post : List Ck} {c : Ck} (k m : Nat) (h : k + m ≤ c.l.length) : ((flat (pre ++ c :: post)).drop ((flat pre).length + k)).take m = (c.l.drop k).take m := by
  rw [flat_mid, List.drop_append, List.drop_eq_nil_of_le (by omega), List.nil_append, Nat.add_sub_cancel_left, List.drop_append, List.take_append_of_le_length (by rw [List.length_drop]; omega)]
theorem take_more {α : Type} (l : List α) (a t m : Nat) : (l.drop a).take (t + m) = (l.drop a).take t ++ (l.drop (a + t)).take m := by
  rw [List.take_add, List.drop_drop]
/-- Where the next text to take stands. -/
def Next (R : Ch) (a t s j k : Nat) : Prop := t < s → ∃ pre c post, R.cs = pre ++ c :: post ∧ pre.length = j ∧ a + t = (flat pre).length + k ∧ k < c.l.length
theorem Next.go {w : World} {q : Nat} {R : Ch} (h : Fine w q R) {a t s : Nat} {pre post : List Ck} {c : Ck} {k m : Nat} (e : R.cs = pre ++ c :: post) (e2 : a + t = (flat pre).length + k) (hm : m = min (c.l.length - k) (s - t)) (hk : k < c.l.length) (hs : a + s ≤ R.n) : Next R a (t + m) s (pre.length + 1) 0 := fun lt => by
  have e3 : m = c.l.length - k := by omega
  have tot := h.num
  rw [e, flat_mid, List.length_append, List.length_append] at tot
  cases post with
  | nil => rw [flat_nil] at tot; simp at tot; omega
  | cons d r =>
    refine ⟨pre ++ [c], d, r, by rw [e]; simp, by simp, ?_, ?_⟩
    · rw [flat_app, flat_cons, flat_nil, List.append_nil, List.length_append]
      omega
    · exact (h.nice.all d.l.length (by rw [e]; exact List.mem_map.2 ⟨d, by simp, rfl⟩)).1
set_option maxHeartbeats 4000000 in
theorem slice_some (w : World) (q : Nat) (R : Ch) (h : Fine w q R) (hs : R.n ≤ 1048576) (i j : Int) (i0 : -9223372036854775808 ≤ i) (i1 : i ≤ 9223372036854775807) (j0 : -9223372036854775808 ≤ j) (j1 : j ≤ 9223372036854775807)
    (a b : Nat) (ea : max (front R.n i) 0 = (a : Int)) (eb : min (front R.n j) ((R.n : Int) - 1) = (b : Int)) (hab : a ≤ b) (hb : b < R.n) :
    Calls Try.prog 18 #[.pointer (some ⟨q, 0, none⟩), .int .i64 i, .int .i64 j] w fun e w' => ∃ v, e = .returned v ∧ OwnTx w.heap.size w' v (((flat R.cs).drop a).take (b - a + 1)) ∧ Below w.heap.size w w' := by
  have H := Lib.hid h
  have F1 := Lib.hid (front_any w q R h.lies i i0 i1 (by omega))
  have F2 := Lib.hid (front_any w q R h.lies j j0 j1 (by omega))
  have LN := Lib.hid (len_any w q R h.lies)
  have mx := run_max_is _ _ ea
  have mn := run_min_is _ _ _ eb
  obtain ⟨n, en⟩ : ∃ n, n = R.n := ⟨_, rfl⟩
  obtain ⟨f, ef⟩ : ∃ f, f = front R.n i := ⟨_, rfl⟩
  obtain ⟨g, eg⟩ : ∃ g, g = front R.n j := ⟨_, rfl⟩
  rw [← ef] at F1 mx
  rw [← eg] at F2 mn
  rw [← en] at LN mn hs hb
  have EN := Lib.hid en
  obtain ⟨d, ed⟩ : ∃ d, d = b - a := ⟨_, rfl⟩
  obtain ⟨s, es⟩ : ∃ s, s = d + 1 := ⟨_, rfl⟩
  have x1 : (b : Int) - (a : Int) = (d : Int) := by omega
  have x2 : (d : Int) + 1 = (s : Int) := by omega
  have x3 : (s : Int) ≤ 1048576 := by omega
  have x4 : (0 : Int) ≤ (s : Int) := by omega
  have x5 : (a : Int) ≤ (b : Int) := by omega
  have x6 : (b : Int) ≤ 1048576 := by omega
  have x7 : (0 : Int) ≤ (a : Int) := by omega
  have x8 : (0 : Int) ≤ (d : Int) := by omega
  have n1 : (n : Int) ≤ 1048576 := by omega
  have n0 : (0 : Int) ≤ (n : Int) - 1 := by omega
  have HS : Hid (a + s ≤ n ∧ n ≤ 1048576 ∧ a < n ∧ b - a + 1 = s) := by show a + s ≤ n ∧ n ≤ 1048576 ∧ a < n ∧ b - a + 1 = s; omega
  clear h ea eb en ef eg hab hb ed es hs
  rw [HS.out.2.2.2]
  go_enter Try.func18, Try.ntmps18
  go_wp2_with fail
  go_at_call 25
  with_reducible refine F1.out.mono ?_
  rintro e w1 ⟨rfl, rfl⟩
  go_wp2_with fail
  go_at_call 25
  with_reducible refine F2.out.mono ?_
  rintro e w2 ⟨rfl, rfl⟩
  go_wp2_with fail
  go_at_call 10
  with_reducible refine LN.out.mono ?_
  rintro e w3 ⟨rfl, rfl⟩
  go_wp2_with (at_make; go_loud (refine wpList_make_texts rfl _ _ rfl w3.heap.size .i64 .i64 _ s rfl rfl rfl (by omega) (Nat.le_refl _) ?_); intro w4 own4 b4; have O4 := Lib.hid own4; have B4 := Lib.hid b4; clear own4 b4)
  go_wp2_with fail
  go_at_call 26
  with_reducible refine (find_any w4 q R (H.out.lies.below B4.out) H.out.num (by have := HS.out; rw [← EN.out]; omega) (fun e => by have h1 := HS.out; have h2 : n = 0 := (by rw [EN.out, H.out.num, e]; simp [flat]); omega) a (by rw [← EN.out]; have := HS.out; omega)).mono ?_
  rintro e w5 ⟨hb5, pre0, c0, post0, k0, rfl, fo⟩
  have B5 := Lib.hid (B4.out.trans (hb5.mono B4.out.size))
  have O5 := Lib.hid (O4.out.keep hb5)
  have NX : Hid (Next R a 0 s pre0.length k0) := fun _ => ⟨pre0, c0, post0, fo.1, rfl, fo.2.1, fo.2.2.2 (by rw [← EN.out]; have := HS.out; omega)⟩
  have p00 : (0 : Int) ≤ (pre0.length : Int) := by omega
  have k00 : (0 : Int) ≤ (k0 : Int) := by omega
  obtain ⟨p0, ep0⟩ : ∃ p0, p0 = pre0.length := ⟨_, rfl⟩
  rw [← ep0] at NX p00 ⊢
  clear hb5 fo ep0
  go_wp2_with fail
  go_loopw [8, 9, 10, 11] (fun v cj ck _ wr => ∃ t j k : Nat, t ≤ s ∧ OwnTx w3.heap.size wr v (((flat R.cs).drop a).take t) ∧ Below w3.heap.size w3 wr ∧ cj = .int .i64 (j : Int) ∧ ck = .int .i64 (k : Int) ∧ Next R a t s j k ∧ (((flat R.cs).drop a).take t).length = t) (fun v _ _ _ _ => s - (match v with | .slice _ n _ => n | _ => 0))
  case atStart => exact ⟨0, p0, k0, Nat.zero_le _, by rw [List.take_zero]; exact O5.out, B5.out, rfl, rfl, NX.out, by simp⟩
  case round =>
    obtain ⟨t, j, k, ht, ow, bw, rfl, rfl, nx, lt⟩ := hrel
    obtain ⟨A, cv, rfl, itx, -⟩ := ow.slice
    have O6 := Lib.hid ow
    have B6 := Lib.hid bw
    have LT := Lib.hid lt
    have cvt : t ≤ cv := by have := itx.2.1; rw [lt] at this; exact this
    rw [lt] at O6 ⊢
    have cv9 : cv ≤ 9223372036854775807 := by have := itx.2.2.1; unfold maxLen at this; omega
    have t0 : (0 : Int) ≤ (t : Int) := by omega
    have t1 : (t : Int) ≤ (s : Int) := by omega
    clear lt ow bw itx
    by_cases lts : t < s
    · obtain ⟨pre, c, post, e, ej, e2, hk⟩ := nx lts
      have lr := H.out.lies.below B6.out
      obtain ⟨B, eB, sp⟩ := lr.spot e
      have c0 := sp.head
      have c1 := sp.slot
      rw [ej] at c1
      have b0 := sp.len
      have b1 := sp.big
      have b2 := sp.ck.len
      have b3 := sp.ck.big
      have p2 := sp.lt
      rw [ej] at p2
      rw [List.length_map] at b2
      obtain ⟨N, eN⟩ : ∃ N, N = R.cs.length := ⟨_, rfl⟩
      rw [← eN] at c0 b0 p2
      obtain ⟨m, em⟩ : ∃ m, m = min (c.l.length - k) (s - t) := ⟨_, rfl⟩
      have nxt := Next.go H.out e e2 em hk (by rw [← EN.out]; exact HS.out.1)
      rw [ej] at nxt
      have src : Row wr (some ⟨c.b, c.off + k, none⟩) (((c.l.drop k).take m).map Value.string) := fun u hu => by
        rw [List.length_map, List.length_take, List.length_drop] at hu
        refine ⟨⟨c.b, c.off + k, none⟩, rfl, sp.ck.lt, ?_⟩
        rw [Addr.add_lit, Nat.add_assoc]
        refine sp.ck.get (k + u) _ ?_
        rw [List.getElem?_map, List.getElem_map, List.getElem_take, List.getElem_drop, List.getElem?_eq_getElem (by omega)]
        rfl
      have mlen : ((c.l.drop k).take m).length = m := by rw [List.length_take, List.length_drop]; omega
      have txt : ((flat R.cs).drop a).take (t + m) = ((flat R.cs).drop a).take t ++ (c.l.drop k).take m := by
        rw [take_more, e2, e, drop_flat k m (by omega)]
      obtain ⟨L, eL⟩ : ∃ L, L = c.l.length := ⟨_, rfl⟩
      rw [← eL] at c1 b2 hk em
      obtain ⟨r, er⟩ : ∃ r, r = L - k := ⟨_, rfl⟩
      rw [← er] at em
      have y1 : (s : Int) - (t : Int) = ((s - t : Nat) : Int) := by omega
      obtain ⟨u, eu⟩ : ∃ u, u = s - t := ⟨_, rfl⟩
      rw [← eu] at y1 em
      have mn2 := run_min_is (r : Int) (u : Int) (m : Int) (by omega)
      have SRC := Lib.hid (And.intro src (And.intro mlen txt))
      have NXT := Lib.hid (And.intro nxt (And.intro e em))
      have M0 : Hid (1 ≤ m ∧ m ≤ s - t ∧ t < s ∧ u = s - t ∧ m ≤ 1048576) := by
        have := HS.out
        show 1 ≤ m ∧ m ≤ s - t ∧ t < s ∧ u = s - t ∧ m ≤ 1048576
        omega
      have ck : ¬ (c.cap = k) := by omega
      have kc : k ≤ c.cap := by omega
      have j0 : (0 : Int) ≤ (j : Int) := by omega
      have j1 : (j : Int) < (N : Int) := by omega
      have k9 : (0 : Int) ≤ (k : Int) := by omega
      have k8 : (k : Int) ≤ (L : Int) := by omega
      have u0 : (0 : Int) ≤ (u : Int) := by omega
      have m0 : (0 : Int) ≤ (m : Int) := by omega
      have m1 : (m : Int) ≤ (c.cap : Int) - (k : Int) := by omega
      have lts' : (t : Int) < (s : Int) := by omega
      have rw_ : L - k = r := er.symm
      clear nx lts sp lr eB nxt src mlen txt e ej e2 eN eL em eu ht er hk
      go_wp2_with (at_builtin; go_loud (refine wpList_append_own_texts rfl (.tmp 51) (.tmp 60) rfl w3.heap.size _ _ rfl O6.out (some ⟨c.b, c.off + k, none⟩) _ m ((c.l.drop k).take m) rfl SRC.out.2.1 (fun e => nomatch e) SRC.out.1 (by rw [LT.out, SRC.out.2.1]; have := M0.out; have := HS.out; omega) B6.out.size ?_); intro v7 w7 own7 b7; rw [← SRC.out.2.2] at own7; have O7 := Lib.hid own7; have B7 : Hid (Below w3.heap.size w3 w7) := B6.out.trans b7; clear own7 b7)
      obtain ⟨A7, c7, rfl, -, -⟩ := O7.out.slice
      have l7 : (((flat R.cs).drop a).take (t + m)).length = t + m := by rw [SRC.out.2.2, List.length_append, LT.out, SRC.out.2.1]
      have L7 := Lib.hid l7
      rw [l7] at O7 ⊢
      clear l7
      go_wp2_with fail
      go_roundw
      case rel => exact ⟨t + m, j + 1, 0, by have := M0.out; omega, O7.out, B7.out, by go_num, rfl, NXT.out.1, L7.out⟩
      case measure => have := M0.out; simp; omega
    · have ge : (s : Int) ≤ (t : Int) := by omega
      have ets : t = s := by omega
      subst ets
      go_wp2_with fail
      go_ret
      exact ⟨_, rfl, O6.out, B6.out⟩
end Go.Proofs.Yteghokakjonblaa
