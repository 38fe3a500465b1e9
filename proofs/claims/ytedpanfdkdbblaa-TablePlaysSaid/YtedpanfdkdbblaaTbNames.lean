/- Package table: Names, in rising order. -/
import Derived.Test.YtedpanfdkdbblaaTbApp
import Derived.Test.YtedpanfdkdbblaaTbRel
import Derived.Lib.SortBridgeS
namespace Go.Proofs.Ytedpanfdkdbblaa
open Go.RowKit
set_option linter.unusedVariables false
def leB (x y : List UInt8) : Bool := decide (x ≤ y)
theorem sorted_le (l : List (List UInt8)) : (l.mergeSort leB).Pairwise (· ≤ ·) := by
  have tr : ∀ a b c : List UInt8, leB a b = true → leB b c = true → leB a c = true := fun a b c h1 h2 => decide_eq_true (List.le_trans (of_decide_eq_true h1) (of_decide_eq_true h2))
  have to : ∀ a b : List UInt8, (leB a b || leB b a) = true := fun a b => by
    rcases List.le_total a b with h | h
    · simp [leB, h]
    · simp [leB, h]
  exact (List.pairwise_mergeSort tr to l).imp fun h => of_decide_eq_true h
theorem below_setCells (B b : Nat) (hb : B ≤ b) : ∀ (vs : List Value) (o : Nat) (a w : World), Below B a w → Below B a (w.setCells b o vs)
  | [], _, _, _, h => h
  | v :: r, o, a, w, h => below_setCells B b hb r (o + 1) a _ (h.setCell (p := ⟨b, o, none⟩) hb v)
theorem below_grow (B : Nat) (a w : World) (os : Array Obj) (h : Below B a w) (hB : B ≤ w.heap.size) : Below B a (Sort.grow w os) :=
  ⟨h.os, h.tape, h.output, by show _ ≤ (w.heap ++ os).size; rw [Array.size_append]; have := h.size; omega, fun k hk => by rw [Sort.heap_grow_old w os (Nat.lt_of_lt_of_le hk hB)]; exact h.block k hk⟩
theorem sort_row (w0 w : World) (v : Value) (ss : List (List UInt8)) (hr : Row w0 w v ss) (hb : Below w0.heap.size w0 w) (hl : ss.length ≤ 1048576) :
    Calls Try.prog 27 #[v] w fun e w' => e = .returned (.tuple #[]) ∧ TTexts w' v (ss.mergeSort leB) ∧ Below w0.heap.size w0 w' := by
  have lm : (ss.mergeSort leB).length = ss.length := List.length_mergeSort ss
  rcases hr.2 with ⟨rfl, h0⟩ | ⟨g, cap, cur, rfl, hg, hc, hcap, hmx, hsz, htk⟩
  · have e : ss = [] := List.eq_nil_of_length_eq_zero h0
    subst e
    refine (Try.slices_Sort_string_none none 0 w).mono ?_
    rintro e w' ⟨he, rfl⟩
    rw [show ([] : List (List UInt8)).mergeSort leB = [] from by simp]
    exact ⟨he, ⟨none, 0, rfl, fun _ => rfl, Nat.le_refl _, fun i hi => absurd hi (by simp)⟩, hb⟩
  · have lt : g < w.heap.size := by
      rcases Nat.lt_or_ge g w.heap.size with k | k
      · exact k
      · rw [Array.getElem?_eq_none k] at hc; cases hc
    have cell : ∀ j (h : j < ss.length), w.cell? ⟨g, 0 + j, none⟩ = some (encStr ss[j]) := fun j h => by
      have h1 : cur[j]? = some (sv ss[j]) := by
        rw [Nat.mul_one] at htk
        have h2 : (cur.toList.take ss.length)[j]? = some (sv ss[j]) := by rw [htk, List.getElem?_map, List.getElem?_eq_getElem h]; rfl
        rw [List.getElem?_take, if_pos h] at h2
        simpa using h2
      rw [Nat.zero_add]
      simp [World.cell?, hc, h1, sv]
    have hH : Sort.Holds encStr w g 0 ss.toArray := fun j hj => by
      have hj' : j < ss.length := by simpa using hj
      refine ⟨?_, by simp [World.frozen?, hc]⟩
      rw [cell j hj']
      simp [hj']
    refine (Try.slices_Sort_string g 0 cap ss w hH lt (by omega)).mono ?_
    rintro e w' ⟨he, q, os, rfl⟩
    have le : (ss.mergeSort fun x y => decide (x ≤ y)) = ss.mergeSort leB := rfl
    rw [le, Lib.sorted_world encStr w g 0 q ss.toArray (ss.mergeSort leB) os hH (by rw [lm]; simp)]
    have cs := Lib.cells_sorted_strs (W := w) (b := g) (off := 0) (n := ss.length) (m := ss.length) (q := q) (Sx := fun i => ⟨(ss.getD i []).toArray⟩) (ys := ss.mergeSort leB) (os := os) (Nat.le_refl _) lm (fun i hi => by rw [cell i hi]; simp [hi])
    have bw : Below w0.heap.size w0 (w.drewN q) := ⟨hb.os, hb.tape, hb.output, hb.size, hb.block⟩
    have bs := below_setCells w0.heap.size g hg ((ss.mergeSort leB).map encStr) 0 w0 _ bw
    refine ⟨he, ⟨some ⟨g, 0, none⟩, cap, by rw [lm], (fun e => nomatch e), by rw [lm]; exact hcap, fun i hi => ⟨⟨g, 0, none⟩, rfl, ?_, ?_⟩⟩, below_grow _ _ _ _ bs bs.size⟩
    · have sz : w.heap.size ≤ (Sort.grow ((w.drewN q).setCells g 0 ((ss.mergeSort leB).map encStr)) os).heap.size := by
        have := below_grow 0 w ((w.drewN q).setCells g 0 ((ss.mergeSort leB).map encStr)) os (below_setCells 0 g (Nat.zero_le _) _ _ _ _ ⟨rfl, rfl, rfl, Nat.le_refl _, fun _ _ => rfl⟩) (Nat.zero_le _)
        exact this.size
      exact Nat.lt_of_lt_of_le lt sz
    · have hi' : i < ss.length := by rw [← lm]; exact hi
      have c := cs i hi'
      rw [Nat.zero_add] at c
      have e : (⟨g, 0, none⟩ : Addr).add i = ⟨g, i, none⟩ := by
        unfold Addr.add
        split
        · rename_i h; rw [h]
        · simp
      rw [e, c]
      unfold Lib.strAfter
      rw [if_pos hi, List.getD_eq_getElem?_getD, List.getElem?_eq_getElem hi]
      rfl
theorem made_names (n : Nat) (w : World) (hn : n ≤ 1048576) : (Instr.makeSlice 35 (.int .i64 0) (.int .i64 (n : Int))).run Try.prog w = .ok (.slice (some ⟨w.heap.size, 0, none⟩) 0 n) (w.alloc (.cells (madeCells (Value.string ⟨#[]⟩).cells n) 9)) := by
  obtain ⟨i, hi, hz, h1, h2⟩ := info_parts infoStr
  have h := run_make (P := Try.prog) w 35 9 i _ Try.underlying35 hi hz .i64 .i64 0 (n : Int) (Int.le_refl _) (by omega) (by rw [h2]; omega) (by omega)
  rw [h1, Nat.mul_one] at h
  rw [h]
  rfl
theorem appendNames_nil (w : World) (v : Value) : Calls Try.prog 26 #[.slice none 0 0, v] w fun e w' => e = .returned v ∧ w' = w := by
  go_enter Try.func26, Try.ntmps26
  go_wp2_with fail
  go_loop [1, 9] (fun u i => u = v ∧ i = .int .i64 0) (fun _ _ => 0)
  case atStart => exact ⟨rfl, rfl⟩
  case round =>
    obtain ⟨rfl, rfl⟩ := hrel
    go_wp2_with fail
    go_ret
    exact ⟨rfl, rfl⟩
theorem names_nil (w : World) : Calls Try.prog 14 #[.pointer none] w fun e w' => e = .returned (.slice none 0 0) ∧ w' = w := by
  go_enter Try.func14, Try.ntmps14
  go_wp2_with fail
  go_ret
  exact ⟨rfl, rfl⟩
set_option maxRecDepth 20000 in
set_option maxHeartbeats 2000000 in
theorem names_any {w : World} {q : Nat} {T : Tb} {M : TabM.T} (h : Tab w q T M) :
    Calls Try.prog 14 #[.pointer (some ⟨q, 0, none⟩)] w fun e w' => (∃ v l, e = .returned v ∧ TTexts w' v l ∧ l.Perm (TabM.names M) ∧ l.Pairwise (· ≤ ·)) ∧ Below w.heap.size w w' := by
  have c0 := h.lies.head.first
  have c1 := h.lies.head.second
  have c3 := h.lies.head.count
  have H := Lib.hid h
  obtain ⟨f, k9, c9⟩ := h.num.fits
  obtain ⟨cn, hcn⟩ : ∃ c, T.count = c := ⟨_, rfl⟩
  obtain ⟨o, ho⟩ : ∃ o, T.two = o := ⟨_, rfl⟩
  rw [hcn] at c3 c9
  rw [ho] at c1
  have HF := Lib.hid f
  have HO := Lib.hid ho
  have HC := Lib.hid hcn
  have mk := made_names cn w (by omega)
  have cn0 : (0 : Int) ≤ (cn : Int) := by omega
  have cn9 : (cn : Int) ≤ 1001 := by omega
  have row0' : Row w (w.alloc (.cells (madeCells (Value.string ⟨#[]⟩).cells cn) 9)) (.slice (some ⟨w.heap.size, 0, none⟩) 0 cn) [] :=
    World.ownsRow_made w _ cn (Nat.le_refl _) (by unfold maxLen; omega) (by simp [madeCells])
  obtain ⟨C, hC⟩ : ∃ C, madeCells (Value.string ⟨#[]⟩).cells cn = C := ⟨_, rfl⟩
  rw [hC] at mk row0'
  have R0 := Lib.hid row0'
  have B0 : Hid (Below w.heap.size w (w.alloc (.cells C 9))) := (Below.refl _ w).alloc (Nat.le_refl _) _
  have len : Hid ((nodes T).length ≤ 1001) := by show (nodes T).length ≤ 1001; rw [← h.ok.cnt, hcn]; exact c9
  have A1 := Lib.hid h.lies.a1
  have HA2 := Lib.hid h.lies.a2
  have ql := h.lies.head.lt
  obtain ⟨n1, hn1⟩ : ∃ n, T.c.length = n := ⟨_, rfl⟩
  have HN := Lib.hid hn1
  rw [hn1] at c0
  have fin : Hid (∀ (w' : World) (v : Value), TTexts w' v (((nodes T).map Nd.s).mergeSort leB) → ∃ v' l, Ending.returned v = .returned v' ∧ TTexts w' v' l ∧ l.Perm (TabM.names M) ∧ l.Pairwise (· ≤ ·)) := fun w' v ht => by
    refine ⟨v, _, rfl, ht, (List.mergeSort_perm _ leB).trans ?_, sorted_le _⟩
    have p := h.perm.map Prod.fst
    unfold pairs at p
    rw [List.map_map] at p
    exact p
  clear h f row0' hcn ho c9 hC hn1
  go_enter Try.func14, Try.ntmps14
  go_wp2_with fail
  go_at_call 26
  have P1 := appendNames_any w _ T.B T.c A1.out _ [] R0.out B0.out HF.out.k9 (by have := flat_le T; have := len.out; simp only [List.length_nil]; omega)
  rw [HN.out, List.nil_append] at P1
  refine P1.mono ?_
  rintro e w1 ⟨v1, rfl, r1, b1⟩
  have R1 := Lib.hid r1
  have B1 := Lib.hid b1
  have d1 : w1.cell? ⟨q, 1, none⟩ = some (arrV o) := by rw [b1.cell ql]; exact c1
  clear r1 b1 P1
  rcases o with _ | ⟨B, cs⟩
  · replace d1 : w1.cell? ⟨q, 1, none⟩ = some (.slice none 0 0) := d1
    clear c1
    go_wp2_with fail
    go_at_call 26
    refine (appendNames_nil w1 v1).mono ?_
    rintro e w2 ⟨rfl, rfl⟩
    have nd : (nodes T).map Nd.s = T.c.flatten.map Nd.s := by unfold nodes; rw [HO.out]; simp [second]
    have ND := Lib.hid nd
    clear nd
    go_wp2_with fail
    go_at_call 27
    refine (sort_row w _ _ _ R1.out B1.out (by have := flat_le T; have := len.out; rw [List.length_map]; omega)).mono ?_
    rintro e w3 ⟨rfl, ht, hb⟩
    have HT := Lib.hid ht
    have HB := Lib.hid hb
    clear ht hb
    go_wp2_with fail
    go_ret
    exact ⟨fin.out _ _ (by rw [ND.out]; exact HT.out), HB.out⟩
  · replace d1 : w1.cell? ⟨q, 1, none⟩ = some (.slice (some ⟨B, 0, none⟩) cs.length cs.length) := d1
    have A2 : Hid (Arr w B cs) := HA2.out B cs HO.out
    clear c1
    have nd : (nodes T).map Nd.s = T.c.flatten.map Nd.s ++ cs.flatten.map Nd.s := by unfold nodes; rw [HO.out]; simp [second]
    have ND := Lib.hid nd
    have few : Hid ((T.c.flatten.map Nd.s).length + cs.flatten.length ≤ 1001) := by
      show (T.c.flatten.map Nd.s).length + cs.flatten.length ≤ 1001
      have h1 := congrArg List.length nd
      simp only [List.length_append, List.length_map] at h1 ⊢
      have := len.out
      omega
    clear nd
    go_wp2_with fail
    go_at_call 26
    refine (appendNames_any w _ B cs A2.out _ _ R1.out B1.out (HF.out.j9 B cs HO.out) (by have := few.out; omega)).mono ?_
    rintro e w2 ⟨v2, rfl, r2, b2⟩
    have R2 := Lib.hid r2
    have B2 := Lib.hid b2
    clear r2 b2
    go_wp2_with fail
    go_at_call 27
    refine (sort_row w _ _ _ R2.out B2.out (by have := few.out; have e : (cs.flatten.map Nd.s).length = cs.flatten.length := List.length_map _; rw [List.length_append]; omega)).mono ?_
    rintro e w3 ⟨rfl, ht, hb⟩
    have HT := Lib.hid ht
    have HB := Lib.hid hb
    clear ht hb
    go_wp2_with fail
    go_ret
    exact ⟨fin.out _ _ (by rw [ND.out]; exact HT.out), HB.out⟩
end Go.Proofs.Ytedpanfdkdbblaa
