/- Package value: rise: does each name rise above the one ahead of it? -/
import Derived.Test.YtgokjdlemfaagaaVlLoop
namespace Go.Proofs.Ytgokjdlemfaagaa
open Go.RowKit Go.Shelf
set_option linter.unusedVariables false
attribute [local go_sem] Oper.semAt_some
theorem riseFrom_snoc (x b : ByteArray) : ∀ (c : ByteArray) (l : List ByteArray), Vl.riseFrom c (l ++ [b] ++ [x]) = (Vl.riseFrom c (l ++ [b]) && !Vl.le x b)
  | c, [] => by simp [Vl.riseFrom]
  | c, s :: r => by
    have := riseFrom_snoc x b s r
    simp only [List.cons_append, Vl.riseFrom] at this ⊢
    rw [this, Bool.and_assoc]
theorem rise_snoc (x b : ByteArray) (l : List ByteArray) : Vl.rise (l ++ [b] ++ [x]) = (Vl.rise (l ++ [b]) && !Vl.le x b) := by
  cases l with
  | nil => simp [Vl.rise, Vl.riseFrom]
  | cons s r => exact riseFrom_snoc x b s r
theorem riseFrom_app : ∀ (c : ByteArray) (a r : List ByteArray), Vl.riseFrom c a = false → Vl.riseFrom c (a ++ r) = false
  | c, [], r, h => by cases h
  | c, s :: a, r, h => by
    simp only [List.cons_append, Vl.riseFrom] at h ⊢
    cases k : !Vl.le s c
    · rfl
    · rw [k, Bool.true_and] at h
      rw [Bool.true_and]; exact riseFrom_app s a r h
theorem rise_prefix {pre xs : List ByteArray} (h : pre <+: xs) (k : Vl.rise pre = false) : Vl.rise xs = false := by
  obtain ⟨r, rfl⟩ := h
  cases pre with
  | nil => cases k
  | cons s a => exact riseFrom_app s a r k
theorem boxed_keeps {W W' : World} {row : Option Nat} {B : Nat} {t : TypeId} {v : Value} (h : Boxed W B t v) (hg : W.grownBy W' row) (hr : ∀ r, row = some r → ∃ o : Obj, W.heap[r]? = some o ∧ o.isCells = false) : Boxed W' B t v :=
  h.kept hg (fun e => by obtain ⟨o, ho, hc⟩ := hr B e.symm; rw [show W.heap[B]? = _ from h] at ho; cases ho; cases hc)
theorem boxed_aside {W : World} {B : Nat} {t : TypeId} {v : Value} (h : Boxed W B t v) {b : Nat} (hb : B ≠ b) (u : Value) : Boxed (W.setCell ⟨b, 0, none⟩ u) B t v :=
  h.kept (grownBy_setCell' W b u) (fun e => hb (Option.some.inj e))
def RiseAt (pre : List ByteArray) (b : ByteArray) (fst : Bool) : Prop := (pre = [] ∧ fst = true) ∨ (∃ ini, pre = ini ++ [b] ∧ fst = false)
set_option maxRecDepth 100000 in
set_option maxHeartbeats 2000000 in
/-- rise. -/
theorem rise_any (w : World) (U : Nat → Prop) (f : Value) (xs : List ByteArray) (g : Goes w U f xs) (hU : ∀ k, U k → k < w.heap.size) :
    Calls Try.prog 30 #[f] w fun e w' => e = .returned (.bool (Vl.rise xs)) ∧ Below w.heap.size w w' := by
  obtain ⟨gf, lb, rfl, eg, hs⟩ := g
  refine (callsIn_wide (n := 8)).1 ?_
  refine callsIn_of_wp_marks Try.func30 rfl trivial ?_ rfl
  simp only [Try.ntmps30, List.size_toArray, List.length_cons, List.length_nil, Nat.reduceAdd, Nat.reduceSub, Array.replicate_succ, Array.replicate_zero, List.push_toArray, List.append_toArray, List.nil_append, List.cons_append]
  gi_wp2
  have b0 := Boxed.new w 4 (.bool false)
  have b1 := Boxed.new (w.alloc (.cells #[.bool false] 4)) 9 (.string ⟨#[]⟩)
  have b2 := Boxed.new ((w.alloc (.cells #[.bool false] 4)).alloc (.cells #[.string ⟨#[]⟩] 9)) 4 (.bool true)
  rw [World.size_alloc] at b1
  rw [World.size_alloc, World.size_alloc] at b2
  have hB0 : Below w.heap.size w (((w.alloc (.cells #[.bool false] 4)).alloc (.cells #[.string ⟨#[]⟩] 9)).alloc (.cells #[.bool true] 4)) := (((Below.refl _ w).alloc (Nat.le_refl _) _).alloc (by simp) _).alloc (by simp; omega) _
  have hs0 := hs (fun k => w.heap.size ≤ k ∧ k < w.heap.size + 3) _ hB0 (fun k e => ⟨fun u => by have := hU k u; omega, by rw [World.size_alloc, World.size_alloc, World.size_alloc]; omega⟩)
  refine wpIn_rangeFunc_ownG rfl (by omega) (gf := gf) (lb := lb) rfl trivial eg hs0 keep_t keep_b (Below.refl _ _) (fun _ => rfl)
    (fun pre W => (∃ b fst, RiseAt pre b fst ∧ Vl.rise pre = true ∧ Boxed W w.heap.size 4 (.bool false) ∧ Boxed W (w.heap.size + 1) 9 (.string b) ∧ Boxed W (w.heap.size + 1 + 1) 4 (.bool fst)) ∧ Below w.heap.size w W)
    (fun c pre W => (c = .ret ∧ Vl.rise pre = false ∧ Boxed W w.heap.size 4 (.bool false)) ∧ Below w.heap.size w W)
    (OwnFrom.and (_root_.Go.Own.from (fun s A B row hs hg hr => by obtain ⟨b, fst, h1, h2, k0, k1, k2⟩ := hs; exact ⟨b, fst, h1, h2, boxed_keeps k0 hg hr, boxed_keeps k1 hg hr, boxed_keeps k2 hg hr⟩) _) (ownFrom_below (Nat.le_refl _) (by simp; omega)))
    (fun c => OwnFrom.and (_root_.Go.Own.from (fun s A B row hs hg hr => ⟨hs.1, hs.2.1, boxed_keeps hs.2.2 hg hr⟩) _) (ownFrom_below (Nat.le_refl _) (by simp; omega)))
    ⟨⟨_, true, .inl ⟨rfl, rfl⟩, rfl, (b0.alloc _).alloc _, b1.alloc _, b2⟩, hB0⟩
    (fun x => { tmps := #[.func (.func gf) #[] lb, undef, .pointer (some ⟨w.heap.size, 0, none⟩), .pointer (some ⟨w.heap.size + 1, 0, none⟩), .pointer (some ⟨w.heap.size + 1 + 1, 0, none⟩), .string x, .func (.func gf) #[] lb, .string x, undef, undef, undef, undef, undef, undef, undef, undef], defers := [] }) ?assign ?body ?done ?stop
  case assign =>
    intro l x W K hK
    gi_wp2
    exact hK
  case body =>
    rintro l pre x W ⟨⟨b, fst, hst, hp, k0, k1, k2⟩, hB⟩ _
    have c0 := k0.cell
    have f0 := k0.frozen
    have c1 := k1.cell
    have f1 := k1.frozen
    have c2 := k2.cell
    have f2 := k2.frozen
    have go : ∀ fst', RiseAt (pre ++ [x]) x fst' → fst' = false → Vl.rise (pre ++ [x]) = true → KeepsFrom ((((w.alloc (.cells #[.bool false] 4)).alloc (.cells #[.string ⟨#[]⟩] 9)).alloc (.cells #[.bool true] 4)).heap.size) W ((W.setCell ⟨w.heap.size + 1, 0, none⟩ (.string x)).setCell ⟨w.heap.size + 1 + 1, 0, none⟩ (.bool false)) ∧
        Keep (fun k => w.heap.size ≤ k ∧ k < w.heap.size + 3) W ((W.setCell ⟨w.heap.size + 1, 0, none⟩ (.string x)).setCell ⟨w.heap.size + 1 + 1, 0, none⟩ (.bool false)) ∧
        (∃ b fst, RiseAt (pre ++ [x]) b fst ∧ Vl.rise (pre ++ [x]) = true ∧ Boxed ((W.setCell ⟨w.heap.size + 1, 0, none⟩ (.string x)).setCell ⟨w.heap.size + 1 + 1, 0, none⟩ (.bool false)) w.heap.size 4 (.bool false) ∧ Boxed ((W.setCell ⟨w.heap.size + 1, 0, none⟩ (.string x)).setCell ⟨w.heap.size + 1 + 1, 0, none⟩ (.bool false)) (w.heap.size + 1) 9 (.string b) ∧ Boxed ((W.setCell ⟨w.heap.size + 1, 0, none⟩ (.string x)).setCell ⟨w.heap.size + 1 + 1, 0, none⟩ (.bool false)) (w.heap.size + 1 + 1) 4 (.bool fst)) ∧
        Below w.heap.size w ((W.setCell ⟨w.heap.size + 1, 0, none⟩ (.string x)).setCell ⟨w.heap.size + 1 + 1, 0, none⟩ (.bool false)) := fun fst' r e q => by
      subst e
      refine ⟨((KeepsOthers.setCell _ _ _).trans (KeepsOthers.setCell _ _ _)).from _, (Keep.setCell _ (by show _ ∧ _; simp only; omega) _).trans (Keep.setCell _ (by show _ ∧ _; simp only; omega) _), ⟨x, false, r, q, boxed_aside (boxed_aside k0 (by omega) _) (by omega) _, boxed_aside (k1.set _) (by omega) _, Boxed.set _ (boxed_aside k2 (by omega) _)⟩, (hB.setCell (p := ⟨w.heap.size + 1, 0, none⟩) (by simp) _).setCell (p := ⟨w.heap.size + 1 + 1, 0, none⟩) (by simp; omega) _⟩
    have GO := Lib.hid go
    have HB := Lib.hid hB
    clear go hB
    rcases hst with ⟨rfl, rfl⟩ | ⟨ini, rfl, rfl⟩
    · gi_wp2
      exact GO.out false (.inr ⟨[], rfl, rfl⟩) rfl rfl
    · by_cases hx : Vl.le x b = true
      · have hx' : (Op.bytesLess x.toList b.toList || x.toList == b.toList) = true := hx
        gi_wp2
        exact ⟨(KeepsOthers.setCell _ _ _).from _, ⟨rfl, by rw [rise_snoc, hx]; simp, k0.set _⟩, HB.out.setCell (p := ⟨w.heap.size, 0, none⟩) (Nat.le_refl _) _⟩
      · have hx' : (Op.bytesLess x.toList b.toList || x.toList == b.toList) = false := eq_false_of_ne_true hx
        gi_wp2
        exact GO.out false (.inr ⟨_, rfl, rfl⟩) rfl (by rw [rise_snoc, hp]; simpa using hx)
  case done =>
    rintro D ys W hD rfl ⟨⟨b, fst, hst, hp, k0, k1, k2⟩, hB⟩ hK
    have hcr := k0.cell
    have hfr := k0.frozen
    gi_wp2
    have hK' := (KeepsOthers.setCell W ⟨w.heap.size, 0, none⟩ (.bool true)).same D _ hK rfl
    refine ⟨by simp, .inl ⟨_, _, rfl, run_takeDeferred hK', ?_⟩⟩
    have hc5 := cell_kept (World.cell?_setCell_same' W ⟨w.heap.size, 0, none⟩ (.bool true) (by rw [hcr]; rfl)) (grownBy_putObj' _ D (.deferred none)) (fun r e => by cases e; exact ⟨_, hK', rfl⟩)
    refine ⟨.bool true, ?_, by rw [hp], (hB.setCell (p := ⟨w.heap.size, 0, none⟩) (Nat.le_refl _) _).trans (belowK_b (w := w) (Nat.le_refl _) _ D _ _ (by simp at hD; omega) hK' rfl rfl)⟩
    simp [results, Try.f30, go_sem, hc5]
  case stop =>
    rintro D c pre W hD hpre ⟨⟨rfl, hin, k0⟩, hB⟩ hK
    gi_wp2
    refine ⟨by simp, .inl ⟨_, _, rfl, run_takeDeferred hK, ?_⟩⟩
    have hc5 := cell_kept k0.cell (grownBy_putObj' _ D (.deferred none)) (fun r e => by cases e; exact ⟨_, hK, rfl⟩)
    refine ⟨.bool false, ?_, by rw [rise_prefix hpre hin], hB.trans (belowK_b (w := w) (Nat.le_refl _) W D _ _ (by simp at hD; omega) hK rfl rfl)⟩
    simp [results, Try.f30, go_sem, hc5]
end Go.Proofs.Ytgokjdlemfaagaa
