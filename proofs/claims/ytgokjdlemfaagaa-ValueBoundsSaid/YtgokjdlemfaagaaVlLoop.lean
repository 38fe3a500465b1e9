/- Package value: areShort, rise: loops over functions that go through texts. -/
import Derived.Test.YtgokjdlemfaagaaVlTx
namespace Go.Proofs.Ytgokjdlemfaagaa
open Go.RowKit Go.Shelf
set_option linter.unusedVariables false
attribute [local go_sem] Oper.semAt_some
theorem short_snoc (pre : List ByteArray) (x : ByteArray) : Vl.short (pre ++ [x]) = (Vl.short pre && decide (x.size ≤ 4096)) := by simp [Vl.short]
theorem short_prefix {pre xs : List ByteArray} (h : pre <+: xs) (k : Vl.short pre = false) : Vl.short xs = false := by
  obtain ⟨r, rfl⟩ := h
  simp only [Vl.short, List.all_append] at k ⊢
  rw [k]; rfl
set_option maxRecDepth 100000 in
set_option maxHeartbeats 2000000 in
/-- areShort. -/
theorem short_any (w : World) (U : Nat → Prop) (f : Value) (xs : List ByteArray) (g : Goes w U f xs) (hU : ∀ k, U k → k < w.heap.size) :
    Calls Try.prog 15 #[f] w fun e w' => e = .returned (.bool (Vl.short xs)) ∧ Below w.heap.size w w' := by
  obtain ⟨gf, lb, rfl, eg, hs⟩ := g
  refine (callsIn_wide (n := 8)).1 ?_
  refine callsIn_of_wp_marks Try.func15 rfl trivial ?_ rfl
  simp only [Try.ntmps15, List.size_toArray, List.length_cons, List.length_nil, Nat.reduceAdd, Nat.reduceSub, Array.replicate_succ, Array.replicate_zero, List.push_toArray, List.append_toArray, List.nil_append, List.cons_append]
  gi_wp2
  have b0 := Boxed.new w 4 (.bool false)
  have hB0 : Below w.heap.size w (w.alloc (.cells #[.bool false] 4)) := (Below.refl _ w).alloc (Nat.le_refl _) _
  have hs0 := hs (fun k => k = w.heap.size) _ hB0 (fun k e => ⟨fun u => by have := hU k u; omega, by rw [World.size_alloc]; omega⟩)
  refine wpIn_rangeFunc_ownG rfl (by omega) (gf := gf) (lb := lb) rfl trivial eg hs0 keep_t keep_b (Below.refl _ _) (fun _ => rfl)
    (fun pre W => (Vl.short pre = true ∧ W.cell? ⟨w.heap.size, 0, none⟩ = some (.bool false) ∧ W.frozen? ⟨w.heap.size, 0, none⟩ = false) ∧ Below w.heap.size w W)
    (fun c pre W => (c = .ret ∧ Vl.short pre = false ∧ W.cell? ⟨w.heap.size, 0, none⟩ = some (.bool false)) ∧ Below w.heap.size w W)
    (OwnFrom.and (_root_.Go.Own.from (fun s A B row hs hg hr => ⟨hs.1, cell_kept hs.2.1 hg hr, (frozen_kept hs.2.1 hg hr).trans hs.2.2⟩) _) (ownFrom_below (Nat.le_refl _) (by simp)))
    (fun c => OwnFrom.and (_root_.Go.Own.from (fun s A B row hs hg hr => ⟨hs.1, hs.2.1, cell_kept hs.2.2 hg hr⟩) _) (ownFrom_below (Nat.le_refl _) (by simp)))
    ⟨⟨rfl, b0.cell, b0.frozen⟩, hB0⟩
    (fun x => { tmps := #[.func (.func gf) #[] lb, undef, .pointer (some ⟨w.heap.size, 0, none⟩), .string x, .func (.func gf) #[] lb, .string x, undef, undef, undef], defers := [] }) ?assign ?body ?done ?stop
  case assign =>
    intro l x W K hK
    gi_wp2
    exact hK
  case body =>
    rintro l pre x W ⟨⟨hp, hcr, hfr⟩, hB⟩ _
    by_cases hx : x.size ≤ 4096
    · have hx' : (x.size : Int) ≤ 4096 := by omega
      gi_wp2
      exact ⟨KeepsFrom.refl _ _, Keep.refl _ _, ⟨by rw [short_snoc, hp, decide_eq_true hx]; rfl, hcr, hfr⟩, hB⟩
    · have hx' : 4096 < (x.size : Int) := by omega
      gi_wp2
      exact ⟨(KeepsOthers.setCell _ _ _).from _, ⟨rfl, by rw [short_snoc, decide_eq_false hx, Bool.and_false], World.cell?_setCell_same' _ _ _ (by rw [hcr]; rfl)⟩, hB.setCell (p := ⟨w.heap.size, 0, none⟩) (Nat.le_refl _) _⟩
  case done =>
    rintro D ys W hD rfl ⟨⟨hne, hcr, hfr⟩, hB⟩ hK
    gi_wp2
    have hK' := (KeepsOthers.setCell W ⟨w.heap.size, 0, none⟩ (.bool true)).same D _ hK rfl
    refine ⟨by simp, .inl ⟨_, _, rfl, run_takeDeferred hK', ?_⟩⟩
    have hc5 := cell_kept (World.cell?_setCell_same' W ⟨w.heap.size, 0, none⟩ (.bool true) (by rw [hcr]; rfl)) (grownBy_putObj' _ D (.deferred none)) (fun r e => by cases e; exact ⟨_, hK', rfl⟩)
    refine ⟨.bool true, ?_, by rw [hne], (hB.setCell (p := ⟨w.heap.size, 0, none⟩) (Nat.le_refl _) _).trans (belowK_b (w := w) (Nat.le_refl _) _ D _ _ (by simp at hD; omega) hK' rfl rfl)⟩
    simp [results, Try.f15, go_sem, hc5]
  case stop =>
    rintro D c pre W hD hpre ⟨⟨rfl, hin, hcr⟩, hB⟩ hK
    gi_wp2
    refine ⟨by simp, .inl ⟨_, _, rfl, run_takeDeferred hK, ?_⟩⟩
    have hc5 := cell_kept hcr (grownBy_putObj' _ D (.deferred none)) (fun r e => by cases e; exact ⟨_, hK, rfl⟩)
    refine ⟨.bool false, ?_, by rw [short_prefix hpre hin], hB.trans (belowK_b (w := w) (Nat.le_refl _) W D _ _ (by simp at hD; omega) hK rfl rfl)⟩
    simp [results, Try.f15, go_sem, hc5]
end Go.Proofs.Ytgokjdlemfaagaa
