/- Package chunk: a row's counts; where a place lies. -/
import Derived.Test.YteghokakjonblaaChRow
namespace Go.Proofs.Yteghokakjonblaa
open Go.RowKit Go.Lib
set_option linter.unusedVariables false
theorem len_any (w : World) (q : Nat) (R : Ch) (h : Lies w q R) :
    Calls Try.prog 10 #[.pointer (some ⟨q, 0, none⟩)] w fun e w' => e = .returned (.int .i64 (R.n : Int)) ∧ w' = w := by
  have k1 := h.num
  have q0 : ∀ (w : World) (a b : Addr), True := fun _ _ _ => trivial
  clear h
  go_enter Try.func10, Try.ntmps10
  go_wp2_with fail
  go_ret
  exact ⟨rfl, rfl⟩
theorem chunks_any (w : World) (q : Nat) (R : Ch) (h : Lies w q R) :
    Calls Try.prog 11 #[.pointer (some ⟨q, 0, none⟩)] w fun e w' => e = .returned (.int .i64 (R.cs.length : Int)) ∧ w' = w := by
  have k0 := h.head
  unfold hdv at k0
  clear h
  go_enter Try.func11, Try.ntmps11
  go_wp2_with fail
  go_ret
  exact ⟨rfl, rfl⟩
/-- A place as it counts from the front. -/
def front (n : Nat) (i : Int) : Int := if i < 0 then n + i else i
theorem front_any (w : World) (q : Nat) (R : Ch) (h : Lies w q R) (i : Int) (i0 : -9223372036854775808 ≤ i) (i1 : i ≤ 9223372036854775807) (hn : R.n ≤ 1099511627776) :
    Calls Try.prog 25 #[.pointer (some ⟨q, 0, none⟩), .int .i64 i] w fun e w' => e = .returned (.int .i64 (front R.n i)) ∧ w' = w := by
  have HL := Lib.hid (len_any w q R h)
  obtain ⟨n, en⟩ : ∃ n, n = R.n := ⟨_, rfl⟩
  rw [← en] at HL hn ⊢
  clear h en
  have n0 : (0 : Int) ≤ (n : Int) := by omega
  have n1 : (n : Int) ≤ 1099511627776 := by omega
  unfold front
  by_cases hi : i < 0
  · have i2 : -9223372036854775808 ≤ (n : Int) + i := by omega
    have i3 : (n : Int) + i ≤ 9223372036854775807 := by omega
    rw [if_pos hi]
    go_enter Try.func25, Try.ntmps25
    go_wp2_with fail
    go_at_call 10
    refine HL.out.mono ?_
    rintro e w' ⟨rfl, rfl⟩
    go_wp2_with fail
    go_ret
    exact ⟨rfl, rfl⟩
  · have hi' : 0 ≤ i := by omega
    rw [if_neg hi]
    go_enter Try.func25, Try.ntmps25
    go_wp2_with fail
    go_ret
    exact ⟨rfl, rfl⟩
/-- There is such a place. -/
def there (n : Nat) (i : Int) : Bool := decide (0 ≤ front n i ∧ front n i < n)
theorem front_fits {n : Nat} {i : Int} (i0 : -9223372036854775808 ≤ i) (i1 : i ≤ 9223372036854775807) (hn : n ≤ 1099511627776) : -9223372036854775808 ≤ front n i ∧ front n i ≤ 9223372036854775807 := by
  unfold front; split <;> omega
theorem place_any (w : World) (q : Nat) (R : Ch) (h : Lies w q R) (i : Int) (i0 : -9223372036854775808 ≤ i) (i1 : i ≤ 9223372036854775807) (hn : R.n ≤ 1099511627776) :
    Calls Try.prog 30 #[.pointer (some ⟨q, 0, none⟩), .int .i64 i] w fun e w' => e = .returned (.tuple #[.int .i64 (front R.n i), .bool (there R.n i)]) ∧ Below w.heap.size w w' := by
  have HF := Lib.hid (front_any w q R h i i0 i1 hn)
  have HL : Hid (∀ w', Below w.heap.size w w' → Calls Try.prog 10 #[.pointer (some ⟨q, 0, none⟩)] w' fun e w'' => e = .returned (.int .i64 (R.n : Int)) ∧ w'' = w') := fun w' hb => len_any w' q R (h.below hb)
  have ft := front_fits i0 i1 hn
  obtain ⟨n, en⟩ : ∃ n, n = R.n := ⟨_, rfl⟩
  rw [← en] at HL HF hn ft ⊢
  clear h en i0 i1
  unfold there
  obtain ⟨f, ef⟩ : ∃ f, f = front n i := ⟨_, rfl⟩
  rw [← ef] at HF ft ⊢
  obtain ⟨f0, f1⟩ := ft
  clear ef
  have n0 : (0 : Int) ≤ (n : Int) := by omega
  have n1 : (n : Int) ≤ 1099511627776 := by omega
  have HB : Hid (Below w.heap.size w w) := Below.refl _ w
  by_cases a : 0 ≤ f
  · by_cases b : f < (n : Int)
    · rw [show decide (0 ≤ f ∧ f < (n : Int)) = true by simp [a, b]]
      go_enter Try.func30, Try.ntmps30
      go_wp2_with fail
      go_at_call 25
      refine HF.out.mono ?_
      rintro e w' ⟨rfl, rfl⟩
      go_wp2_with fail
      go_at_call 10
      refine (HL.out _ (Below.refl _ _)).mono ?_
      rintro e w1 ⟨rfl, rfl⟩
      go_wp2_with fail
      go_ret2
      exact ⟨rfl, Below.refl _ _⟩
    · have b' : (n : Int) ≤ f := by omega
      have db : decide (f < (n : Int)) = false := by simp [b]
      rw [show decide (0 ≤ f ∧ f < (n : Int)) = false by simp [b]]
      go_enter Try.func30, Try.ntmps30
      go_wp2_with fail
      go_at_call 25
      refine HF.out.mono ?_
      rintro e w' ⟨rfl, rfl⟩
      go_wp2_with fail
      go_at_call 10
      refine (HL.out _ (Below.refl _ _)).mono ?_
      rintro e w1 ⟨rfl, rfl⟩
      go_wp2_with fail
      go_ret2
      exact ⟨rfl, Below.refl _ _⟩
  · have a' : f < 0 := by omega
    rw [show decide (0 ≤ f ∧ f < (n : Int)) = false by simp [a]]
    go_enter Try.func30, Try.ntmps30
    go_wp2_with fail
    go_at_call 25
    refine HF.out.mono ?_
    rintro e w' ⟨rfl, rfl⟩
    go_wp2_with fail
    go_ret2
    exact ⟨rfl, Below.refl _ _⟩
theorem flat_take (cs : List Ck) (j : Nat) (h : j < cs.length) : (flat (cs.take (j + 1))).length = (flat (cs.take j)).length + (cs[j]).l.length := by
  rw [List.take_add_one, List.getElem?_eq_getElem h, Option.toList_some, flat_app, List.length_append]
  simp [flat]
theorem flat_mono (cs : List Ck) (i j : Nat) (h : i ≤ j) : (flat (cs.take i)).length ≤ (flat (cs.take j)).length := by
  have : cs.take i = (cs.take j).take i := by rw [List.take_take, Nat.min_eq_left h]
  rw [this]
  conv => rhs; rw [← List.take_append_drop i (cs.take j)]
  rw [flat_app, List.length_append]
  omega
/-- A place found: the chunks ahead, the chunk, those behind, the place within. -/
def Found (R : Ch) (i : Nat) (pre : List Ck) (c : Ck) (post : List Ck) (at_ : Nat) : Prop :=
  R.cs = pre ++ c :: post ∧ i = (flat pre).length + at_ ∧ at_ ≤ c.l.length ∧ (i < R.n → at_ < c.l.length)
theorem found_at {R : Ch} (j d i : Nat) (h : j < R.cs.length) (e : i = (flat (R.cs.take j)).length + d) (hd : d ≤ (R.cs[j]).l.length) (hl : i < R.n → d < (R.cs[j]).l.length) : ∃ pre c post, pre.length = j ∧ Found R i pre c post d := by
  refine ⟨R.cs.take j, R.cs[j], R.cs.drop (j + 1), by rw [List.length_take]; omega, ?_, e, hd, hl⟩
  have := List.take_append_drop j R.cs
  rw [List.drop_eq_getElem_cons h] at this
  exact this.symm
set_option maxHeartbeats 1000000 in
theorem find_any (w : World) (q : Nat) (R : Ch) (h : Lies w q R) (hn : R.n = (flat R.cs).length) (hs : R.n ≤ 1099511627776) (hne : R.cs ≠ []) (i : Nat) (hi : i ≤ R.n) :
    Calls Try.prog 26 #[.pointer (some ⟨q, 0, none⟩), .int .i64 (i : Int)] w fun e w' => Below w.heap.size w w' ∧ ∃ (pre : List Ck) (c : Ck) (post : List Ck) (at_ : Nat), e = .returned (.tuple #[.int .i64 (pre.length : Int), .int .i64 (at_ : Int)]) ∧ Found R i pre c post at_ := by
  obtain ⟨c0, r0, e0⟩ := List.exists_cons_of_ne_nil hne
  obtain ⟨B, eB⟩ := h.headSome (c := c0) (by rw [e0]; simp)
  have k0 := h.head
  rw [eB] at k0
  have k1 := h.num
  have sB := h.some_ B eB
  have N0 : 0 < R.cs.length := by rw [e0]; simp
  have big := sB.len
  have big2 := sB.big
  rw [List.length_map] at big
  have cl : ∀ j (hj : j < R.cs.length), w.cell? ⟨B, j, none⟩ = some (ckv (R.cs[j])) := fun j hj => by
    have := sB.get j (ckv (R.cs[j])) (by simp [hj])
    rwa [Nat.zero_add] at this
  have cap_ : ∀ j (hj : j < R.cs.length), (R.cs[j]).l.length ≤ (R.cs[j]).cap ∧ (R.cs[j]).cap ≤ 9223372036854775807 := fun j hj => by
    have s := h.ck _ (List.getElem_mem hj)
    have := s.len
    rw [List.length_map] at this
    exact ⟨this, s.big⟩
  obtain ⟨N, eN⟩ : ∃ N, N = R.cs.length := ⟨_, rfl⟩
  obtain ⟨bf, ebf⟩ : ∃ bf : Nat → Nat, ∀ j, bf j = (flat (R.cs.take j)).length := ⟨_, fun _ => rfl⟩
  have b0 : bf 0 = 0 := by rw [ebf]; rfl
  have bN : bf N = R.n := by rw [ebf, hn, eN, List.take_length]
  have mono : ∀ a b, a ≤ b → bf a ≤ bf b := fun a b k => by rw [ebf, ebf]; exact flat_mono _ _ _ k
  have ck2 : ∀ j, j < N → ∃ b off L cap, w.cell? ⟨B, j, none⟩ = some (.slice (some ⟨b, off, none⟩) L cap) ∧ bf (j + 1) = bf j + L ∧ L ≤ cap ∧ cap ≤ 9223372036854775807 := fun j hj => by
    have hj' : j < R.cs.length := by omega
    exact ⟨_, _, _, _, cl j hj', by rw [ebf, ebf]; exact flat_take _ j hj', cap_ j hj'⟩
  have fin : ∀ j d, j < N → i = bf j + d → bf j + d ≤ bf (j + 1) → (i < R.n → bf j + d < bf (j + 1)) → ∃ pre c post, pre.length = j ∧ Found R i pre c post d := fun j d hj e e2 e3 => by
    have hj' : j < R.cs.length := by omega
    have ft := flat_take R.cs j hj'
    rw [← ebf, ← ebf] at ft
    exact found_at j d i hj' (by rw [← ebf]; exact e) (by omega) (fun z => by have := e3 z; omega)
  unfold hdv at k0
  rw [← eN] at k0 big N0
  obtain ⟨n, en⟩ : ∃ n, n = R.n := ⟨_, rfl⟩
  rw [← en] at k1 bN hs hi
  have FIN := Lib.hid fin
  have CK := Lib.hid ck2
  have HM := Lib.hid mono
  have HEN := Lib.hid en
  have HI := Lib.hid (And.intro b0 (And.intro bN hi))
  clear fin ck2 mono b0 bN hi ebf eN cl cap_ sB hn hne e0 h en
  have n0 : (0 : Int) ≤ (n : Int) := by omega
  have n1 : (n : Int) ≤ 1099511627776 := by omega
  have i0 : (0 : Int) ≤ (i : Int) := by omega
  have i1 : (i : Int) ≤ 1099511627776 := by have := HI.out.2.2; omega
  have N1 : (N : Int) ≤ 9223372036854775807 := by omega
  have N2 : (0 : Int) < (N : Int) := by omega
  obtain ⟨m, em⟩ : ∃ m, m = n / 2 := ⟨_, rfl⟩
  have m1 : (n : Int).tdiv 2 = (m : Int) := by rw [em]; rfl
  have m2 : (n : Int) / 2 = (m : Int) := by rw [em]; rfl
  have HEM := Lib.hid em
  have m3 : (0 : Int) ≤ (m : Int) := by omega
  have m4 : (m : Int) ≤ 1099511627776 := by omega
  clear em hs
  by_cases lt : i < m
  · have lt' : (i : Int) < (m : Int) := by omega
    have HLT := Lib.hid lt
    clear lt
    go_enter Try.func26, Try.ntmps26
    go_wp2_with fail
    go_loopw [1, 4] (fun v c wr => wr = w ∧ ∃ j d : Nat, j < N ∧ i = bf j + d ∧ v = .int .i64 (d : Int) ∧ c = .int .i64 (j : Int)) (fun _ c _ => N - (RowKit.intOf c).toNat)
    case atStart => exact ⟨rfl, 0, i, by omega, by rw [HI.out.1, Nat.zero_add], rfl, rfl⟩
    case round =>
      obtain ⟨rfl, j, d, hj, hd, rfl, rfl⟩ := hrel
      obtain ⟨b, off, L, cap, kj, hL, hc1, hc2⟩ := CK.out j hj
      have HJ := Lib.hid (And.intro hj (And.intro hd hL))
      have d0 : (0 : Int) ≤ (d : Int) := by omega
      have d1 : (d : Int) ≤ 1099511627776 := by omega
      have j0 : (0 : Int) ≤ (j : Int) := by omega
      have j1 : (j : Int) < (N : Int) := by omega
      have j2 : j < N := hj
      by_cases ge : L ≤ d
      · have ge' : (L : Int) ≤ (d : Int) := by omega
        have nxt : Hid (j + 1 < N ∧ i = bf (j + 1) + (d - L)) := by
          show j + 1 < N ∧ i = bf (j + 1) + (d - L)
          refine ⟨?_, by omega⟩
          rcases Nat.lt_or_ge (j + 1) N with z | z
          · exact z
          · have := HM.out N (j + 1) z
            rw [HI.out.2.1] at this
            have := HLT.out
            have := HEM.out
            omega
        have d2 : 0 ≤ (d : Int) - (L : Int) := by omega
        have d3 : (d : Int) - (L : Int) ≤ 9223372036854775807 := by omega
        have d4 : -9223372036854775808 ≤ (d : Int) - (L : Int) := by omega
        clear hd hL hj
        go_wp2_with fail
        go_roundw
        case rel => exact ⟨trivial, j + 1, d - L, nxt.out.1, nxt.out.2, by congr 1; omega, by go_num⟩
        case measure => simp [RowKit.intOf]; omega
      · have ge' : (d : Int) < (L : Int) := by omega
        have res := FIN.out j d hj hd (by omega) (fun _ => by omega)
        have RES := Lib.hid res
        clear hd hL hj res
        go_wp2_with fail
        go_ret2
        obtain ⟨pre, c, post, ep, fo⟩ := RES.out
        exact ⟨Below.refl _ _, pre, c, post, d, by rw [ep]; rfl, fo⟩
  · have lt' : (m : Int) ≤ (i : Int) := by omega
    clear lt
    obtain ⟨jl, ejl⟩ : ∃ jl, N = jl + 1 := ⟨N - 1, by omega⟩
    have l0 : (N : Int) - 1 = (jl : Int) := by omega
    have l1 : (0 : Int) ≤ (jl : Int) := by omega
    have l2 : (jl : Int) < (N : Int) := by omega
    have l3 : jl < N := by omega
    obtain ⟨b, off, L, cap, kj, hL, hc1, hc2⟩ := CK.out jl l3
    rw [← ejl] at hL
    have HJ := Lib.hid hL
    have nL : (n : Int) - (L : Int) = (bf jl : Int) := by have := HI.out.2.1; omega
    have bl0 : (0 : Int) ≤ (bf jl : Int) := by omega
    have bl1 : (bf jl : Int) ≤ 1099511627776 := by have := HI.out.2.1; omega
    have HJL := Lib.hid ejl
    obtain ⟨z, ez⟩ : ∃ z, z = bf jl := ⟨_, rfl⟩
    rw [← ez] at nL bl0 bl1
    have HZ := Lib.hid ez
    clear ejl hL ez
    go_enter Try.func26, Try.ntmps26
    go_wp2_with fail
    go_region
    go_wp2_with fail
    go_loopw [4, 6] (fun c v wr => wr = w.drew ∧ ∃ j y : Nat, j < N ∧ y = bf j ∧ i ≤ bf (j + 1) ∧ (i < n → i < bf (j + 1)) ∧ v = .int .i64 (y : Int) ∧ c = .int .i64 (j : Int)) (fun c _ _ => (RowKit.intOf c).toNat)
    case atStart =>
      have x1 := HJL.out
      have x2 := HI.out
      exact ⟨rfl, jl, z, by omega, HZ.out, by rw [← x1, x2.2.1]; exact x2.2.2, fun k => by rw [← x1, x2.2.1]; exact k, rfl, rfl⟩
    case round =>
      obtain ⟨rfl, j, y, hj, hy, hi1, hi2, rfl, rfl⟩ := hrel
      have y9 : y ≤ n := by
        have := HM.out j N (by omega)
        rw [HI.out.2.1] at this
        omega
      have y0 : (0 : Int) ≤ (y : Int) := by omega
      have y1 : (y : Int) ≤ 1099511627776 := by omega
      have j0 : (0 : Int) ≤ (j : Int) := by omega
      have j1 : (j : Int) < (N : Int) := by omega
      by_cases ge : i < y
      · have ge' : (i : Int) < (y : Int) := by omega
        have jpos : j ≠ 0 := fun z => by
          subst z
          rw [HI.out.1] at hy
          omega
        obtain ⟨t, et⟩ : ∃ t, j = t + 1 := ⟨j - 1, by omega⟩
        have t0 : (j : Int) - 1 = (t : Int) := by omega
        have t1 : (0 : Int) ≤ (t : Int) := by omega
        have t2 : (t : Int) < (N : Int) := by omega
        have t3 : t < N := by omega
        obtain ⟨b', off', L', cap', kt, hL', hc1', hc2'⟩ := CK.out t t3
        have yL : (y : Int) - (L' : Int) = ((y - L' : Nat) : Int) := by rw [et] at hy; omega
        obtain ⟨x, ex⟩ : ∃ x, x = y - L' := ⟨_, rfl⟩
        rw [← ex] at yL
        have x0 : (0 : Int) ≤ (x : Int) := by omega
        have x1 : (x : Int) ≤ 1099511627776 := by omega
        have REL : Hid (t < N ∧ x = bf t ∧ i ≤ bf (t + 1) ∧ (i < n → i < bf (t + 1))) := by
          show t < N ∧ x = bf t ∧ i ≤ bf (t + 1) ∧ (i < n → i < bf (t + 1))
          subst et
          exact ⟨t3, by omega, by omega, fun _ => by omega⟩
        have HT := Lib.hid et
        clear hj hy hi1 hi2 y9 jpos et hL' ex
        go_wp2_with fail
        go_roundw
        case rel => exact ⟨trivial, t, x, REL.out.1, REL.out.2.1, REL.out.2.2.1, REL.out.2.2.2, by go_num, by go_num⟩
        case measure => have := HT.out; simp [RowKit.intOf]; omega
      · have ge' : (y : Int) ≤ (i : Int) := by omega
        have iy : (i : Int) - (y : Int) = ((i - y : Nat) : Int) := by omega
        obtain ⟨x, ex⟩ : ∃ x, x = i - y := ⟨_, rfl⟩
        rw [← ex] at iy
        have x0 : (0 : Int) ≤ (x : Int) := by omega
        have x1 : (x : Int) ≤ 1099511627776 := by omega
        have res := FIN.out j x hj (by omega) (by omega) (fun k => by have := hi2 (by rw [HEN.out]; exact k); omega)
        have RES := Lib.hid res
        clear hj hy hi1 hi2 y9 res ex
        go_wp2_with fail
        go_ret2
        obtain ⟨pre, c, post, ep, fo⟩ := RES.out
        exact ⟨(Below.refl _ _).drew, pre, c, post, x, by rw [ep]; rfl, fo⟩
end Go.Proofs.Yteghokakjonblaa
