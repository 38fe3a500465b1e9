/- Package value: are names unlike, are places points? -/
import Derived.Test.YtgokjdlemfaagaaVlOrd
namespace Go.Proofs.Ytgokjdlemfaagaa
open Go.RowKit Go.Maps Go.WideMaps
set_option linter.unusedVariables false
def nameKey (e : ByteArray × Int) : Lit := .string e.1.data.toList
theorem nameKey_is (e : ByteArray × Int) : WideAt.IsKeyLit (nameKey e) := trivial
theorem nameKey_same (a b : ByteArray × Int) : (nameKey a).sameKey (nameKey b) = (a.1.toList == b.1.toList) := by
  rw [ByteArray.toList_eq, ByteArray.toList_eq]
  by_cases h : a.1.data.toList = b.1.data.toList
  · have : nameKey a = nameKey b := by unfold nameKey; rw [h]
    rw [this, WideAt.sameKey_self (nameKey_is b), h, beq_self_eq_true]
  · rw [beq_eq_false_iff_ne.2 h]
    exact sameKey_ne fun k => h (by unfold nameKey at k; injection k)
theorem addKey_le : ∀ (xs acc : List Lit), (xs.foldl addKey acc).length ≤ acc.length + xs.length
  | [], acc => by simp
  | x :: r, acc => by
    rw [List.foldl_cons]
    have := addKey_le r (addKey acc x)
    have h : (addKey acc x).length ≤ acc.length + 1 := by unfold addKey; split <;> simp
    simp only [List.length_cons]; omega
theorem unique_fold : ∀ (l : List (ByteArray × Int)) (acc : List Lit), ((l.map nameKey).foldl addKey acc).length = acc.length + l.length ↔ (Vl.unique l = true ∧ ∀ e ∈ l, acc.any (fun y => y.sameKey (nameKey e)) = false)
  | [], acc => by simp [Vl.unique]
  | a :: r, acc => by
    rw [List.map_cons, List.foldl_cons]
    cases h : acc.any fun y => y.sameKey (nameKey a)
    · have e : addKey acc (nameKey a) = acc ++ [nameKey a] := by unfold addKey; rw [h]; rfl
      rw [e]
      have ih := unique_fold r (acc ++ [nameKey a])
      simp only [List.length_append, List.length_cons, List.length_nil] at ih ⊢
      rw [show acc.length + (r.length + 1) = acc.length + (0 + 1) + r.length by omega, ih]
      simp only [Vl.unique, Bool.and_eq_true, Bool.not_eq_true', List.any_eq_false, List.any_append, Bool.or_eq_false_iff, List.any_cons, List.any_nil, Bool.or_false, List.mem_cons, forall_eq_or_imp]
      constructor
      · rintro ⟨h1, h2⟩
        exact ⟨⟨fun e he => by rw [← nameKey_same]; simpa using (h2 e he).2, h1⟩, by simpa using h, fun e he => by simpa using (h2 e he).1⟩
      · rintro ⟨⟨h1, h2⟩, _, h4⟩
        exact ⟨h2, fun e he => ⟨by simpa using h4 e he, by rw [nameKey_same]; simpa using h1 e he⟩⟩
    · have e : addKey acc (nameKey a) = acc := by unfold addKey; rw [h]; rfl
      rw [e]
      constructor
      · intro k
        have := addKey_le (r.map nameKey) acc
        simp only [List.length_map, List.length_cons] at this k
        omega
      · rintro ⟨_, k⟩
        have := k a (by simp)
        rw [h] at this; cases this
theorem make_set (w : World) (n : Int) : (Instr.makeMap 84 (some (.int .i64 n))).run Try.prog w = .ok (.map (some w.heap.size)) (w.alloc (.map #[] 0)) := by
  unfold Instr.makeMap
  simp [run_underlying Try.underlying84, asInt]
  rfl
theorem law_names : Keyed Try.prog 9 := string_keyed Try.underlying9
def setAt (l : List (ByteArray × Int)) (k : Nat) : DataW Unit := setOf (.agg []) ((l.take k).map nameKey)
theorem setAt_next (l : List (ByteArray × Int)) (k : Nat) (h : k < l.length) : setAt l (k + 1) = (setAt l k).put (nameKey l[k]) (.agg []) := by
  unfold setAt
  rw [take_more l k h, List.map_append, List.map_singleton, setOf_snoc]
set_option maxRecDepth 100000 in
set_option maxHeartbeats 1000000 in
/-- areUnique. -/
theorem unique_any (w : World) (B n cap : Nat) (A : Option Addr) (l : List (ByteArray × Int)) (hn : l.length = n) (h62 : n ≤ 1048576) (hc : Cells w B A (scells l)) (hB : B ≤ w.heap.size) (hsz : ∀ e ∈ l, e.1.size ≤ maxLen) :
    Calls Try.prog 28 #[.slice A n cap] w fun e w' => e = .returned (.bool (Vl.unique l)) ∧ Below w.heap.size w w' := by
  have HC := Lib.hid hc
  have HN := Lib.hid hn
  have HBB := Lib.hid hB
  have HSZ := Lib.hid hsz
  have n9 : (n : Int) ≤ 1048576 := by omega
  have n0 : (0 : Int) ≤ (n : Int) := by omega
  have H62 := Lib.hid h62
  have hmm := make_set
  clear hc hn hB h62 hsz
  go_enter Try.func28, Try.ntmps28
  go_wp2_with fail
  go_loopw [11] (fun i wr => ∃ k : Nat, k ≤ n ∧ i = .int .i64 k ∧ wr.ownsMap Try.prog 9 (unitElem (H := Unit)) w.heap.size k (setAt l k) ∧ Below w.heap.size w wr ∧ w.heap.size + 1 ≤ wr.heap.size) (fun i _ => n - (intOf i).toNat)
  case atStart => exact ⟨0, Nat.zero_le _, rfl, World.ownsMap_made _ _ _ _, (Below.refl _ _).alloc (Nat.le_refl _) _, by simp⟩
  case round =>
    obtain ⟨k, hk, rfl, hown, hb, hws⟩ := hrel
    have HB := Lib.hid hb
    have HW := Lib.hid hws
    clear hb hws
    have k0 : (0 : Int) ≤ (k : Int) := by omega
    by_cases hlt : k < n
    · have k1 : (k : Int) < (n : Int) := by omega
      have hx : k < l.length := by rw [HN.out]; exact hlt
      obtain ⟨p, rfl, hp, a1, a2⟩ := (HC.out.below (HB.out.mono HBB.out)).at2 k hx
      have nx := Lib.hid (setAt_next l k hx)
      have sz := HSZ.out _ (List.getElem_mem hx)
      obtain ⟨x, hxe⟩ : ∃ x, l[k] = x := ⟨_, rfl⟩
      rw [hxe] at a1 a2 nx sz
      clear hxe
      obtain ⟨xs, xi⟩ := x
      simp only at a1 a2 sz
      have hkey : keyOf Try.prog 9 (.string xs) = some (nameKey (xs, xi)) := keyOf_string_mk Try.underlying9 sz
      go_wp2_with (first
        | (at_mapUpdate; refine wpList_mapUpdate_own _ rfl _ _ _ 84 rfl 9 85 law_names Try.underlying84 (unitElem (H := Unit)) w.heap.size k _ rfl (hown.alloc _) (by unfold maxLen; have := H62.out; omega) _ _ _ rfl rfl hkey _ [] unitElem_mk ?_; intro w1 hown1 hgrow1)
        | go_in)
      go_roundw
      case rel => exact ⟨k + 1, hlt, by go_num, by rw [nx.out]; exact hown1, (HB.out.alloc HB.out.size _).grown hgrow1 (by have := HB.out.size; simp; omega) (fun j hj => by cases hj; exact Nat.le_refl _), Nat.le_trans HW.out (Nat.le_trans (by simp) hgrow1.size)⟩
      case measure => simp [intOf]; omega
    · obtain rfl : k = n := by omega
      have hs : Hid (Maps.size (setAt l k) = ((l.map nameKey).foldl addKey []).length) := by
        show Maps.size (setAt l k) = _
        unfold setAt
        rw [← HN.out, List.take_length]
        exact size_setOf _ _ fun x hx => by obtain ⟨e, _, rfl⟩ := List.mem_map.1 hx; exact nameKey_is e
      obtain ⟨z, hz⟩ : ∃ z, Maps.size (setAt l k) = z := ⟨_, rfl⟩
      rw [hz] at hs
      go_wp2_with (first
        | (at_len; refine wpList_len_own _ rfl _ 84 rfl 9 85 Try.underlying84 (unitElem (H := Unit)) w.heap.size k _ rfl hown ?_)
        | go_in)
      go_ret
      refine ⟨?_, HB.out⟩
      have u := unique_fold l []
      rw [← hs.out, List.length_nil, Nat.zero_add, HN.out] at u
      have e : ((z : Int) == (k : Int)) = Vl.unique l := by
        by_cases q : z = k
        · rw [q, beq_self_eq_true]
          exact (u.1 q).1.symm
        · rw [show ((z : Int) == (k : Int)) = false from beq_eq_false_iff_ne.2 (fun h => q (Int.ofNat.inj h))]
          refine (Bool.eq_false_iff.2 fun h => q (u.2 ⟨h, fun e _ => rfl⟩)).symm
      show Ending.returned (Value.bool ((z : Int) == (k : Int))) = _
      rw [e]
set_option maxRecDepth 100000 in
set_option maxHeartbeats 1000000 in
/-- arePoints. -/
theorem points_any (pt : Nat × Nat → Bool) (w : World) (B n cap : Nat) (A : Option Addr) (l : List (ByteArray × Nat × Nat)) (hn : l.length = n) (h62 : n ≤ 1048576) (hc : Cells w B A (pcells l)) (hB : B ≤ w.heap.size)
    (MP : ∀ e ∈ l, ∀ w, Calls Try.prog 44 #[.complex .f64 e.2.1 e.2.2] w fun r w' => r = .returned (.bool (pt e.2)) ∧ Below w.heap.size w w') :
    Calls Try.prog 29 #[.slice A n cap] w fun e w' => e = .returned (.bool (l.all fun p => pt p.2)) ∧ Below w.heap.size w w' := by
  have HC := Lib.hid hc
  have HN := Lib.hid hn
  have HBB := Lib.hid hB
  have HMP := Lib.hid MP
  have n9 : (n : Int) ≤ 1048576 := by omega
  have n0 : (0 : Int) ≤ (n : Int) := by omega
  clear hc hn hB h62 MP
  go_enter Try.func29, Try.ntmps29
  go_wp2_with fail
  go_loopw [7] (fun i wr => ∃ k : Nat, k ≤ n ∧ i = .int .i64 k ∧ ((l.take k).all fun p => pt p.2) = true ∧ Below w.heap.size w wr) (fun i _ => n - (intOf i).toNat)
  case atStart => exact ⟨0, Nat.zero_le _, rfl, rfl, Below.refl _ _⟩
  case round =>
    obtain ⟨k, hk, rfl, hal, hb⟩ := hrel
    have HB := Lib.hid hb
    have HAL := Lib.hid hal
    clear hb hal
    have k0 : (0 : Int) ≤ (k : Int) := by omega
    by_cases hlt : k < n
    · have k1 : (k : Int) < (n : Int) := by omega
      have hx : k < l.length := by rw [HN.out]; exact hlt
      obtain ⟨p, rfl, hp, a1, a2⟩ := (HC.out.below (HB.out.mono HBB.out)).at2 k hx
      have nx := Lib.hid (take_more l k hx)
      have mp := HMP.out _ (List.getElem_mem hx)
      have MM := Lib.hid (List.getElem_mem hx)
      obtain ⟨x, hxe⟩ : ∃ x, l[k] = x := ⟨_, rfl⟩
      rw [hxe] at a1 a2 nx mp MM
      clear hxe
      obtain ⟨xs, xa, xb⟩ := x
      simp only at a1 a2 mp
      obtain ⟨r, hr⟩ : ∃ r, pt (xa, xb) = r := ⟨_, rfl⟩
      rw [hr] at mp
      have HR := Lib.hid hr
      clear hr
      have hst : ∀ (a : Addr) (W : World), (store a (.complex .f64 xa xb)).run Try.prog W = stored Try.prog W a (.complex .f64 xa xb) .plain := fun a W => run_store _ W a _ _ rfl
      cases r
      · go_wp2_with (go_at_call 44; refine (mp _).mono ?_; rintro e w' ⟨rfl, hb2⟩)
        go_ret
        refine ⟨?_, below_then (HB.out.alloc HB.out.size _) hb2⟩
        have : (l.all fun p => pt p.2) = false := by
          refine Bool.eq_false_iff.2 fun h => ?_
          have := List.all_eq_true.1 h _ MM.out
          simp only at this
          rw [HR.out] at this; cases this
        rw [this]
        rfl
      · go_wp2_with (go_at_call 44; refine (mp _).mono ?_; rintro e w' ⟨rfl, hb2⟩)
        go_roundw
        case rel => exact ⟨k + 1, hlt, by go_num, by rw [nx.out, List.all_append, HAL.out, List.all_cons, HR.out]; rfl, below_then (HB.out.alloc HB.out.size _) hb2⟩
        case measure => simp [intOf]; omega
    · obtain rfl : k = n := by omega
      go_wp2_with fail
      go_ret
      refine ⟨?_, HB.out⟩
      have := HAL.out
      rw [← HN.out, List.take_length] at this
      rw [this]
      rfl
end Go.Proofs.Ytgokjdlemfaagaa
