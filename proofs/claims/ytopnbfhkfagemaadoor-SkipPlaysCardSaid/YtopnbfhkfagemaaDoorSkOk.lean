/- Package skip as the laws use it: all its calls on a set of a law's own. -/
import Derived.Test.YtopnbfhkfagemaaDoorSkRange
namespace Go.Proofs.YtopnbfhkfagemaaDoor
open Go.RowKit
set_option linter.unusedVariables false
theorem st_shape {w : World} {q : Nat} {o : Option (Nat × Nat)} {ns : List Nd} (st : St w q o ns) (h : ns ≠ []) : ∃ F m, o = Option.some (F, m) := by
  cases st with
  | fresh _ => exact absurd rfl h
  | some _ _ _ _ => exact ⟨_, _, rfl⟩
section
variable {w : World} {G : Nat → Prop} {p : Addr} {l : List SkM.E}
theorem rlen (R : SkRel w G p l) : Calls Tryd.prog 14 #[.pointer (some p)] w fun e w' => e = .returned (.int .i64 (l.length : Int)) ∧ Below w.heap.size w w' := by
  obtain ⟨⟨q, o, ns, rfl, st, rfl, hG⟩, ok, len, nm⟩ := R
  refine (len_any st).mono ?_
  rintro e w' ⟨he, rfl⟩
  exact ⟨by rw [List.length_map]; exact he, Below.refl _ _⟩
theorem rscore (R : SkRel w G p l) (s : ByteArray) (hs : s.size ≤ maxLen) : Calls Tryd.prog 19 #[.pointer (some p), .string s] w fun e w' => e = .returned (.tuple #[.int .i64 ((SkM.get l s.data.toList).getD 0), .bool (SkM.get l s.data.toList).isSome]) ∧ Below w.heap.size w w' := by
  obtain ⟨⟨q, o, ns, rfl, st, rfl, hG⟩, ok, len, nm⟩ := R
  refine (score_any st s hs).mono ?_
  rintro e w' ⟨he, rfl⟩
  exact ⟨he, Below.refl _ _⟩
/-- Where a name stands. -/
def SkM.rank (l : List SkM.E) (s : List UInt8) : Nat := (l.takeWhile fun a => a.1 != s).length
theorem rank_at {a b : List SkM.E} {s : List UInt8} {v : Int} (h : ((a ++ (s, v) :: b).map Prod.fst).Nodup) : SkM.rank (a ++ (s, v) :: b) s = a.length := by
  unfold SkM.rank
  have n : ∀ y ∈ a, (y.1 != s) = true := fun y hy => by
    rw [List.map_append, List.map_cons] at h
    have := (List.nodup_append.1 h).2.2 y.1 (List.mem_map.2 ⟨y, hy, rfl⟩) s (by simp)
    simpa using this
  rw [List.takeWhile_append_of_pos n, List.takeWhile_cons, if_neg (by simp)]
  simp
theorem rrank (R : SkRel w G p l) (s : ByteArray) (hs : s.size ≤ maxLen) : Calls Tryd.prog 18 #[.pointer (some p), .string s] w fun e w' => e = .returned (.tuple #[.int .i64 (if (SkM.get l s.data.toList).isSome then (SkM.rank l s.data.toList : Int) else 0), .bool (SkM.get l s.data.toList).isSome]) ∧ Below w.heap.size w w' := by
  obtain ⟨⟨q, o, ns, rfl, st, rfl, hG⟩, ok, len, nm⟩ := R
  cases hg : SkM.get (ns.map Nd.e) s.data.toList with
  | none =>
    refine (rank_none st s hs hg).mono ?_
    rintro e w' ⟨he, rfl⟩
    exact ⟨he, Below.refl _ _⟩
  | some v =>
    obtain ⟨pre, y, post, rfl, ye, -, -, -⟩ := nd_at ns ok hg
    rw [List.length_map] at len
    obtain ⟨F, m, rfl⟩ := st_shape st (by simp)
    refine (rank_walk w q F m pre post y st ok len s (congrArg Prod.fst ye).symm hs).mono ?_
    rintro e w' ⟨he, hb⟩
    refine ⟨?_, hb⟩
    have nn := ok.names
    rw [List.map_append, List.map_cons, ye] at nn
    rw [List.map_append, List.map_cons, ye, rank_at nn, List.length_map]
    exact he
theorem rbelow (R : SkRel w G p l) (n : Int) : Calls Tryd.prog 21 #[.pointer (some p), .int .i64 n] w fun e w' => e = .returned (.int .i64 (((l.takeWhile fun a => decide (a.2 < n)).length : Nat) : Int)) ∧ Below w.heap.size w w' := by
  obtain ⟨⟨q, o, ns, rfl, st, rfl, hG⟩, ok, len, nm⟩ := R
  rw [List.length_map] at len
  cases st with
  | fresh hh => exact below_none (.fresh hh) n
  | some hh b sc ap =>
    by_cases h0 : ns.length = 0
    · have : ns = [] := List.eq_nil_of_length_eq_zero h0
      subst this
      exact below_none (.some hh b sc ap) n
    · obtain ⟨a, c, e, ha, hc⟩ := SkM.part (fun y => y.2 < n) (fun a b h k => by
        rcases h with h | ⟨h, -⟩
        · exact Int.lt_trans h k
        · show a.2 < n; rw [h]; exact k) _ ok.sorted
      obtain ⟨pre, post, rfl, rfl, rfl⟩ := List.map_eq_append_iff.1 e
      refine (below_some w q _ _ pre post (.some hh b sc ap) len (by omega) n (fun y hy => ha _ (List.mem_map.2 ⟨y, hy, rfl⟩)) (fun y hy => hc _ (List.mem_map.2 ⟨y, hy, rfl⟩))).mono ?_
      rintro e w' ⟨he, hb⟩
      refine ⟨?_, hb⟩
      rw [List.map_append, (SkM.while_split (p := fun a : SkM.E => decide (a.2 < n)) (fun y hy => decide_eq_true (ha y hy)) (fun y hy => decide_eq_false (hc y hy))).1, List.length_map]
      exact he
theorem rat (R : SkRel w G p l) (r : Int) (r0 : -9223372036854775808 ≤ r) (r1 : r ≤ 9223372036854775807) : Calls Tryd.prog 20 #[.pointer (some p), .int .i64 r] w fun e w' => e = .returned (if h : 0 ≤ idx l.length r ∧ (idx l.length r).toNat < l.length then .tuple #[.agg #[.string ⟨(l[(idx l.length r).toNat]'h.2).1.toArray⟩, .int .i64 (l[(idx l.length r).toNat]'h.2).2], .bool true] else .tuple #[.agg #[.string ⟨#[]⟩, .int .i64 0], .bool false]) ∧ Below w.heap.size w w' := by
  obtain ⟨⟨q, o, ns, rfl, st, rfl, hG⟩, ok, len, nm⟩ := R
  have len' : ns.length ≤ 1000 := by rw [List.length_map] at len; exact len
  split
  · rename_i h
    obtain ⟨k, hk⟩ : ∃ k, (idx (ns.map Nd.e).length r).toNat = k := ⟨_, rfl⟩
    have hkl : k < ns.length := by have := h.2; rw [hk, List.length_map] at this; exact this
    have hi : idx ns.length r = (k : Int) := by have := h.1; rw [List.length_map] at this hk; omega
    have e : ns = ns.take k ++ ns[k] :: ns.drop (k + 1) := by
      have := List.take_append_drop k ns
      rw [List.drop_eq_getElem_cons hkl] at this
      exact this.symm
    obtain ⟨F, m, rfl⟩ := st_shape st (fun e => by rw [e] at hkl; cases hkl)
    · obtain ⟨y, hy⟩ : ∃ y, ns[k] = y := ⟨_, rfl⟩
      rw [hy] at e
      have st2 : St w q (some (F, m)) (ns.take k ++ y :: ns.drop (k + 1)) := by rw [← e]; exact st
      refine (at_some st2 (by rw [← e]; exact len') r r0 r1 (by rw [← e, hi, List.length_take]; omega)).mono ?_
      rintro e w' ⟨he, hb⟩
      refine ⟨?_, hb⟩
      rw [he]
      simp only [hk, List.getElem_map, hy]
      rfl
  · rename_i h
    refine at_none st len' r r0 r1 ?_
    rw [List.length_map] at h
    by_cases k : idx ns.length r < 0
    · exact .inl k
    · refine .inr ?_
      by_cases z : (ns.length : Int) ≤ idx ns.length r
      · exact z
      · exact absurd ⟨by omega, by omega⟩ h
theorem rrange (R : SkRel w G p l) (i j : Int) (i0 : -9223372036854775808 ≤ i) (i1 : i ≤ 9223372036854775807) (j0 : -9223372036854775808 ≤ j) (j1 : j ≤ 9223372036854775807) : Calls Tryd.prog 24 #[.pointer (some p), .int .i64 i, .int .i64 j] w fun e w' => (∃ v, e = .returned v ∧ SList w' v (SkM.cut l i j)) ∧ Below w.heap.size w w' := by
  obtain ⟨⟨q, o, ns, rfl, st, rfl, hG⟩, ok, len, nm⟩ := R
  have len' : ns.length ≤ 1000 := by rw [List.length_map] at len; exact len
  unfold SkM.cut
  rw [List.length_map]
  by_cases h : min (idx ns.length j) ((ns.length : Int) - 1) < max (idx ns.length i) 0
  · rw [if_pos h]
    refine (range_none st len' i j i0 i1 j0 j1 h).mono ?_
    rintro e w' ⟨he, rfl⟩
    exact ⟨⟨_, he, none, 0, rfl, fun _ => rfl, Nat.le_refl _, fun i hi => absurd hi (Nat.not_lt_zero _)⟩, Below.refl _ _⟩
  · rw [if_neg h]
    obtain ⟨a, ha⟩ : ∃ a : Nat, max (idx ns.length i) 0 = (a : Int) := ⟨(max (idx ns.length i) 0).toNat, by omega⟩
    obtain ⟨b, hb⟩ : ∃ b : Nat, min (idx ns.length j) ((ns.length : Int) - 1) = (b : Int) := ⟨(min (idx ns.length j) ((ns.length : Int) - 1)).toNat, by omega⟩
    cases st with
    | fresh hh => exfalso; simp only [List.length_nil] at h hb ha; omega
    | some hh b' sc ap =>
      refine (range_some (.some hh b' sc ap) len' i j i0 i1 j0 j1 a b ha hb (by omega)).mono ?_
      rintro e w' ⟨⟨v, he, hs⟩, hbw⟩
      refine ⟨⟨v, he, ?_⟩, hbw⟩
      rw [ha, hb, Int.toNat_natCast, Int.toNat_natCast, ← List.map_drop, ← List.map_take]
      exact hs
theorem cut_all (l : List SkM.E) : SkM.cut l 0 (-1) = l := by
  unfold SkM.cut idx
  simp only [show ((-1 : Int) < 0) = True from eq_true (by decide), show ((0 : Int) < 0) = False from eq_false (by decide), if_true, if_false]
  by_cases h : l.length = 0
  · rw [List.eq_nil_of_length_eq_zero h]
    rfl
  · rw [if_neg (by omega)]
    have e : (min ((l.length : Int) + -1) ((l.length : Int) - 1)).toNat - (max (0 : Int) 0).toNat + 1 = l.length := by omega
    rw [e]
    exact List.take_length
theorem rall (R : SkRel w G p l) : Calls Tryd.prog 17 #[.pointer (some p)] w fun e w' => (∃ v, e = .returned v ∧ SList w' v l) ∧ Below w.heap.size w w' := by
  have H := Lib.hid (rrange R 0 (-1) (by decide) (by decide) (by decide) (by decide))
  rw [cut_all] at H
  clear R
  go_enter Tryd.func17, Tryd.ntmps17
  go_wp2_with fail
  go_at_call 24
  refine H.out.mono ?_
  rintro e w' ⟨⟨v, rfl, hs⟩, hb⟩
  have HS := Lib.hid hs
  obtain ⟨A, c, rfl, -⟩ := hs
  go_wp2_with fail
  go_ret
  exact ⟨⟨_, rfl, HS.out⟩, hb⟩
set_option maxRecDepth 20000 in
set_option maxHeartbeats 2000000 in
theorem rlevels (R : SkRel w G p l) : Calls Tryd.prog 15 #[.pointer (some p)] w fun e w' => (∃ k : Nat, e = .returned (.int .i64 (k : Int)) ∧ k ≤ 20) ∧ Below w.heap.size w w' := by
  obtain ⟨⟨q, o, ns, rfl, st, rfl, hG⟩, ok, len, nm⟩ := R
  have LN := Lib.hid (len_any st)
  by_cases h0 : ns.length = 0
  · rw [h0] at LN
    clear st ok len nm hG h0
    go_enter Tryd.func15, Tryd.ntmps15
    go_wp2_with fail
    go_at_call 14
    refine LN.out.mono ?_
    rintro e w0 ⟨rfl, hw0⟩
    obtain rfl := hw0.symm
    go_wp2_with fail
    go_ret
    exact ⟨⟨0, rfl, Nat.zero_le _⟩, Below.refl _ _⟩
  · cases st with
    | fresh hh => exact absurd rfl h0
    | @some F m ns hh b sc ap =>
    obtain ⟨N, hN⟩ : ∃ N, ns.length = N := ⟨_, rfl⟩
    rw [hN] at LN h0
    have N1 : ¬ (N : Int) = 0 := by omega
    have HB := Lib.hid b
    have hq := hh.front
    clear hh b sc ap ok len nm hG h0 hN
    go_enter Tryd.func15, Tryd.ntmps15
    go_wp2_with fail
    go_at_call 14
    refine LN.out.mono ?_
    rintro e w0 ⟨rfl, hw0⟩
    obtain rfl := hw0.symm
    go_wp2_with fail
    go_loopw [14, 3] (fun v14 v3 wr => ∃ i k : Nat, i ≤ 20 ∧ k ≤ i ∧ v14 = .int .i64 (i : Int) ∧ v3 = .int .i64 (k : Int) ∧ Below w.heap.size w wr) (fun v14 _ _ => 20 - (intOf v14).toNat)
    case atStart => exact ⟨0, 0, by decide, by decide, rfl, rfl, Below.refl _ _⟩
    case round =>
      obtain ⟨i, k, hi, hk, rfl, rfl, hbw⟩ := hrel
      have i0 : (0 : Int) ≤ (i : Int) := by omega
      have k0 : (0 : Int) ≤ (k : Int) := by omega
      have k9 : (k : Int) ≤ 20 := by omega
      have BW := Lib.hid hbw
      by_cases hlt : i < 20
      · have i1 : (i : Int) < 20 := by omega
        have lk := ((HB.out.below hbw).lev i hlt).1
        obtain ⟨o, ho⟩ : ∃ o, pt (nx i ns).1 = o := ⟨_, rfl⟩
        obtain ⟨n, hn⟩ : ∃ n : Nat, (nx i ns).2 = n := ⟨_, rfl⟩
        have c0 : wr.cell? ⟨F, i * 2, none⟩ = some (.pointer o) := by rw [← ho]; exact lk.to
        have c1 : wr.cell? ⟨F, i * 2 + 1, none⟩ = some (.int .i64 (n : Int)) := by rw [← hn]; exact lk.width
        have al : Below w.heap.size w (wr.alloc (.cells #[.pointer o, .int .i64 (n : Int)] 74)) := hbw.alloc hbw.size _
        have AL := Lib.hid al
        have HK := Lib.hid (And.intro hk hlt)
        clear hbw lk ho hn al hk hi hlt
        by_cases h : 0 < (n : Int)
        · go_wp2_with fail
          exact ⟨⟨i + 1, k + 1, HK.out.2, by have := HK.out.1; omega, by go_num, by go_num, AL.out⟩, by have := HK.out.2; simp [intOf]; omega⟩
        · have h2 : (n : Int) ≤ 0 := by omega
          clear h
          go_wp2_with fail
          exact ⟨⟨i + 1, k, HK.out.2, by have := HK.out.1; omega, by go_num, rfl, AL.out⟩, by have := HK.out.2; simp [intOf]; omega⟩
      · have i1 : (20 : Int) ≤ (i : Int) := by omega
        have HK : Hid (k ≤ 20) := by show k ≤ 20; omega
        clear hbw hlt hi hk
        go_wp2_with fail
        go_ret
        exact ⟨⟨k, rfl, HK.out⟩, BW.out⟩
end
end Go.Proofs.YtopnbfhkfagemaaDoor
