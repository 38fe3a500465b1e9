/- Package chunk: At, Set. -/
import Derived.Test.YteghokakjonblaaChCall
namespace Go.Proofs.Yteghokakjonblaa
open Go.RowKit Go.Lib
set_option linter.unusedVariables false
/-- The text at a place, or none. -/
def atOf (l : List ByteArray) (i : Int) : ByteArray := if there l.length i = true then (l[(front l.length i).toNat]?).getD ⟨#[]⟩ else ⟨#[]⟩
theorem there_is {n : Nat} {i : Int} (h : there n i = true) : ∃ k : Nat, front n i = (k : Int) ∧ k < n := by
  unfold there at h
  obtain ⟨a, b⟩ := of_decide_eq_true h
  exact ⟨(front n i).toNat, by omega, by omega⟩
theorem found_get {R : Ch} {i : Nat} {pre post : List Ck} {c : Ck} {k : Nat} (f : Found R i pre c post k) (hk : k < c.l.length) : (flat R.cs)[i]? = some c.l[k] := by
  obtain ⟨e, e2, -, -⟩ := f
  rw [e, flat_mid, e2, List.getElem?_append_right (by omega), Nat.add_sub_cancel_left, List.getElem?_append_left hk]
  simp
/-- What a row's chunk looks like in memory, laid open. -/
structure Spot (w : World) (q B n cap : Nat) (k : Nat) (c : Ck) : Prop where
  head : w.cell? ⟨q, 0, none⟩ = some (.slice (some ⟨B, 0, none⟩) n cap)
  slot : w.cell? ⟨B, k, none⟩ = some (.slice (some ⟨c.b, c.off, none⟩) c.l.length c.cap)
  ck : CkAt w c
  lt : k < n
  len : n ≤ cap
  big : cap ≤ 9223372036854775807
  Bq : B ≠ q
  cq : c.b ≠ q
  cB : c.b ≠ B
  fq : w.frozen? ⟨q, 0, none⟩ = false
  fB : ∀ i, w.frozen? ⟨B, i, none⟩ = false
theorem Lies.spot {w : World} {q : Nat} {R : Ch} (h : Lies w q R) {pre post : List Ck} {c : Ck} (e : R.cs = pre ++ c :: post) : ∃ B, R.B = some B ∧ Spot w q B R.cs.length R.cap pre.length c := by
  have cm : c ∈ R.cs := by rw [e]; simp
  obtain ⟨B, eB⟩ := h.headSome cm
  have k0 := h.head
  rw [eB] at k0
  have s := h.some_ B eB
  have l := s.len
  rw [List.length_map] at l
  exact ⟨B, eB, k0, h.slot e eB, h.ck c cm, by rw [e]; simp, l, s.big, h.Bq B eB, h.cq c cm, h.cB B eB c cm, h.free 0, s.free⟩
set_option maxHeartbeats 1000000 in
theorem at_any (w : World) (q : Nat) (R : Ch) (h : Lies w q R) (hn : R.n = (flat R.cs).length) (hs : R.n ≤ 1099511627776) (i : Int) (i0 : -9223372036854775808 ≤ i) (i1 : i ≤ 9223372036854775807) :
    Calls Try.prog 21 #[.pointer (some ⟨q, 0, none⟩), .int .i64 i] w fun e w' => e = .returned (.tuple #[.string (atOf (flat R.cs) i), .bool (there R.n i)]) ∧ Below w.heap.size w w' := by
  have HP := Lib.hid (place_any w q R h i i0 i1 hs)
  have H := Lib.hid (And.intro h (And.intro hn hs))
  unfold atOf
  rw [← hn]
  clear h hn hs
  cases hth : there R.n i
  · rw [if_neg (by simp)]
    rw [hth] at HP
    clear hth
    obtain ⟨f, hf⟩ : ∃ f, f = front R.n i := ⟨_, rfl⟩
    rw [← hf] at HP
    clear hf
    go_enter Try.func21, Try.ntmps21
    go_wp2_with fail
    go_at_call 30
    refine HP.out.mono ?_
    rintro e w1 ⟨rfl, hb⟩
    have HB := Lib.hid hb
    clear hb
    go_wp2_with fail
    go_ret2
    exact ⟨rfl, HB.out⟩
  · obtain ⟨k, hk, hlt⟩ := there_is hth
    rw [if_pos rfl, hk, Int.toNat_natCast]
    rw [hth, hk] at HP
    have HK := Lib.hid hlt
    clear hth hk hlt
    go_enter Try.func21, Try.ntmps21
    go_wp2_with fail
    go_at_call 30
    refine HP.out.mono ?_
    rintro e w1 ⟨rfl, hb⟩
    have HB := Lib.hid hb
    clear hb
    go_wp2_with fail
    go_at_call 26
    refine (find_any w1 q R (H.out.1.below HB.out) H.out.2.1 H.out.2.2 (fun e => by have := HK.out; rw [H.out.2.1, e] at this; exact absurd this (Nat.not_lt_zero _)) k (Nat.le_of_lt HK.out)).mono ?_
    rintro e w2 ⟨hb2, pre, c, post, at_, rfl, fo⟩
    have L2 := (H.out.1.below HB.out).below hb2
    obtain ⟨B, eB, sp⟩ := L2.spot fo.1
    have lt := fo.2.2.2 HK.out
    have get := found_get fo lt
    have c0 := sp.head
    have c1 := sp.slot
    have c2 := sp.ck.get at_ (.string c.l[at_]) (by simp [lt])
    have p0 : (0 : Int) ≤ (pre.length : Int) := by omega
    have p1 : (pre.length : Int) < (R.cs.length : Int) := by have := sp.lt; omega
    have a0 : (0 : Int) ≤ (at_ : Int) := by omega
    have a1 : (at_ : Int) < (c.l.length : Int) := by omega
    have b0 := sp.len
    have b1 := sp.big
    have b2 := sp.ck.len
    have b3 := sp.ck.big
    rw [List.length_map] at b2
    have HG := Lib.hid get
    have HB2 := Lib.hid (below_then HB.out hb2)
    obtain ⟨x, ex⟩ : ∃ x, x = c.l[at_] := ⟨_, rfl⟩
    rw [← ex] at c2 HG
    clear get L2 sp fo hb2 ex lt
    obtain ⟨cb, co, cc, cl⟩ := c
    dsimp only at c1 c2 a1 b2 b3
    obtain ⟨m, em⟩ : ∃ m, m = cl.length := ⟨_, rfl⟩
    rw [← em] at c1 a1 b2
    obtain ⟨p, ep⟩ : ∃ p, p = pre.length := ⟨_, rfl⟩
    rw [← ep] at p0 p1 c1 ⊢
    obtain ⟨n, en⟩ : ∃ n, n = R.cs.length := ⟨_, rfl⟩
    rw [← en] at c0 b0 p1
    clear em ep en
    go_wp2_with fail
    go_ret2
    exact ⟨by rw [HG.out]; rfl, HB2.out⟩
set_option maxHeartbeats 2000000 in
theorem set_any (w : World) (q : Nat) (R : Ch) (h : Lies w q R) (hn : R.n = (flat R.cs).length) (hs : R.n ≤ 1099511627776) (i : Int) (i0 : -9223372036854775808 ≤ i) (i1 : i ≤ 9223372036854775807) (s : ByteArray) (s9 : s.size ≤ 281474976710656) :
    Calls Try.prog 22 #[.pointer (some ⟨q, 0, none⟩), .int .i64 i, .string s] w fun e w' => e = .returned (.bool (there R.n i)) ∧
      ((there R.n i = false ∧ Below w.heap.size w w') ∨ (there R.n i = true ∧ ∃ pre c post at_ w1, Found R (front R.n i).toNat pre c post at_ ∧ at_ < c.l.length ∧ Below w.heap.size w w1 ∧ w' = w1.setCell ⟨c.b, c.off + at_, none⟩ (.string s))) := by
  have HP := Lib.hid (place_any w q R h i i0 i1 hs)
  have H := Lib.hid (And.intro h (And.intro hn hs))
  have HC : Hid (∀ W, Calls Try.prog 29 #[.string s] W fun e w' => e = .returned (.string s) ∧ Below W.heap.size W w') := fun W => clone_any s W s9
  clear h hn hs s9
  cases hth : there R.n i
  · rw [hth] at HP
    clear hth
    obtain ⟨f, hf⟩ : ∃ f, f = front R.n i := ⟨_, rfl⟩
    rw [← hf] at HP
    go_enter Try.func22, Try.ntmps22
    go_wp2_with fail
    go_at_call 30
    refine HP.out.mono ?_
    rintro e w1 ⟨rfl, hb⟩
    have HB := Lib.hid hb
    clear hb
    go_wp2_with fail
    go_ret
    exact ⟨rfl, .inl ⟨trivial, HB.out⟩⟩
  · obtain ⟨k, hk, hlt⟩ := there_is hth
    rw [hk, Int.toNat_natCast]
    rw [hth, hk] at HP
    have HK := Lib.hid hlt
    clear hth hk hlt
    go_enter Try.func22, Try.ntmps22
    go_wp2_with fail
    go_at_call 30
    refine HP.out.mono ?_
    rintro e w1 ⟨rfl, hb⟩
    have HB := Lib.hid hb
    clear hb
    go_wp2_with fail
    go_at_call 26
    refine (find_any w1 q R (H.out.1.below HB.out) H.out.2.1 H.out.2.2 (fun e => by have := HK.out; rw [H.out.2.1, e] at this; exact absurd this (Nat.not_lt_zero _)) k (Nat.le_of_lt HK.out)).mono ?_
    rintro e w2 ⟨hb2, pre, c, post, at_, rfl, fo⟩
    have L2 := (H.out.1.below HB.out).below hb2
    obtain ⟨B, eB, sp⟩ := L2.spot fo.1
    have lt := fo.2.2.2 HK.out
    have c0 := sp.head
    have c1 := sp.slot
    have c2 := sp.ck.get at_ (.string c.l[at_]) (by simp [lt])
    have f2 := sp.ck.free (c.off + at_)
    have p0 : (0 : Int) ≤ (pre.length : Int) := by omega
    have p1 : (pre.length : Int) < (R.cs.length : Int) := by have := sp.lt; omega
    have a0 : (0 : Int) ≤ (at_ : Int) := by omega
    have a1 : (at_ : Int) < (c.l.length : Int) := by omega
    have b0 := sp.len
    have b1 := sp.big
    have b2 := sp.ck.len
    have b3 := sp.ck.big
    rw [List.length_map] at b2
    have HF := Lib.hid (And.intro fo lt)
    have HB2 := Lib.hid (below_then HB.out hb2)
    obtain ⟨x, ex⟩ : ∃ x, x = c.l[at_] := ⟨_, rfl⟩
    rw [← ex] at c2
    have lq := L2.lt
    have lB := (L2.some_ B eB).lt
    have lc := sp.ck.lt
    clear L2 sp fo hb2 ex lt
    obtain ⟨cb, co, cc, cl⟩ := c
    dsimp only at c1 c2 a1 b2 b3 f2 lc
    obtain ⟨m, em⟩ : ∃ m, m = cl.length := ⟨_, rfl⟩
    rw [← em] at c1 a1 b2
    obtain ⟨p, ep⟩ : ∃ p, p = pre.length := ⟨_, rfl⟩
    rw [← ep] at p0 p1 c1 ⊢
    obtain ⟨n, en⟩ : ∃ n, n = R.cs.length := ⟨_, rfl⟩
    rw [← en] at c0 b0 p1
    have KEEP : Hid (∀ W W' : World, Below w2.heap.size w2 W → Below W.heap.size W W' → Below w2.heap.size w2 W' ∧ W'.cell? ⟨q, 0, none⟩ = some (.slice (some ⟨B, 0, none⟩) n R.cap) ∧ W'.cell? ⟨B, p, none⟩ = some (.slice (some ⟨cb, co, none⟩) m cc) ∧ W'.cell? ⟨cb, co + at_, none⟩ = some (.string x) ∧ W'.frozen? ⟨cb, co + at_, none⟩ = false) := fun W W' a b => by
      have t := below_then a b
      refine ⟨t, ?_, ?_, ?_, ?_⟩
      · rw [t.cell lq]; exact c0
      · rw [t.cell lB]; exact c1
      · rw [t.cell lc]; exact c2
      · rw [World.frozen?_of_block (t.block _ lc)]; exact f2
    clear em ep en
    go_wp2_with fail
    go_region_with (first
      | (go_at_call 29; refine (HC.out _).mono ?_; rintro e w3 ⟨rfl, hb3⟩; obtain ⟨b4, d0, d1, d2, d3⟩ := KEEP.out _ _ (Below.refl _ _).drew hb3)
      | fail)
    all_goals (go_wp2_with fail; go_ret; exact ⟨rfl, .inr ⟨trivial, pre, _, post, at_, _, HF.out.1, HF.out.2, below_then HB2.out b4, rfl⟩⟩)
end Go.Proofs.Yteghokakjonblaa
