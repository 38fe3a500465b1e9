/- Three values that a law made: what package value answers of them. -/
import Derived.Test.YtgokjdlemfaagaaVlOs
namespace Go.Proofs.Ytgokjdlemfaagaa
open Go.RowKit
set_option linter.unusedVariables false
theorem row_shape {W : World} {base e size n : Nat} {v : Value} {xs : List Value} (h : W.ownsRow base e size v n xs) (hn : 1 ≤ n) : ∃ g c, v = .slice (some ⟨g, 0, none⟩) n c ∧ n ≤ c ∧ g < W.heap.size := by
  rcases h.2 with ⟨rfl, h0⟩ | ⟨g, cap, cur, rfl, _, hg, hc, _⟩
  · omega
  · exact ⟨g, cap, rfl, hc, (Array.getElem?_eq_some_iff.1 hg).1⟩
theorem row_sl {W : World} {base e size n : Nat} {v : Value} {xs : List Value} (h : W.ownsRow base e size v n xs) : Sl W W.heap.size v n xs ∨ (n = 0 ∧ xs = []) := by
  rcases h.2 with ⟨rfl, h0⟩ | ⟨g, cap, cur, rfl, _, hg, hc, _⟩
  · subst h0
    exact .inr ⟨rfl, List.eq_nil_of_length_eq_zero (by have := h.1; simpa using this)⟩
  · refine .inl ⟨_, cap, rfl, (fun e => nomatch e), hc, fun i hi => ⟨_, rfl, (Array.getElem?_eq_some_iff.1 hg).1, ?_⟩⟩
    exact World.ownsRow.cells h (g := g) rfl i _ (List.getElem?_eq_getElem hi)
theorem row_sl1 {W : World} {base e size n : Nat} {v : Value} {xs : List Value} (h : W.ownsRow base e size v n xs) (hn : 1 ≤ n) : Sl W W.heap.size v n xs := by
  rcases row_sl h with h | h
  · exact h
  · omega
def xh (ns : List ByteArray) : Vl := { kind := 3, text := ⟨#[]⟩, list := [], fields := hl ns, scores := [], points := [] }
def xs (ns : List ByteArray) : Vl := { kind := 4, text := ⟨#[]⟩, list := [], fields := [], scores := sl ns, points := [] }
def xp (ns : List ByteArray) : Vl := { kind := 5, text := ⟨#[]⟩, list := [], fields := [], scores := [], points := pl ns }
theorem vr_h {w W : World} {vh vs vp : Value} {ns a b : List ByteArray} (r : OR w W vh vs vp ns a b) (hn : 1 ≤ ns.length) : Vr W W.heap.size (.agg (hcs vh)) (xh ns) :=
  ⟨_, _, _, _, rfl, Sl.none, by have := row_sl1 r.h hn; simpa [xh, hl] using this, Sl.none, Sl.none⟩
theorem vr_s {w W : World} {vh vs vp : Value} {ns a b : List ByteArray} (r : OR w W vh vs vp a ns b) (hn : 1 ≤ ns.length) : Vr W W.heap.size (.agg (scs vs)) (xs ns) :=
  ⟨_, _, _, _, rfl, Sl.none, Sl.none, by have := row_sl1 r.s hn; simpa [xs, sl] using this, Sl.none⟩
theorem vr_p {w W : World} {vh vs vp : Value} {ns a b : List ByteArray} (r : OR w W vh vs vp a b ns) (hn : 1 ≤ ns.length) : Vr W W.heap.size (.agg (pcs vp)) (xp ns) :=
  ⟨_, _, _, _, rfl, Sl.none, Sl.none, Sl.none, by have := row_sl1 r.p hn; simpa [xp, pl] using this⟩
/-- Names of one letter each. -/
def Ones (ns : List ByteArray) : Prop := ∀ s ∈ ns, s.size = 1
theorem sum_ones : ∀ {ns : List ByteArray}, Ones ns → Vl.sum ns = ns.length
  | [], _ => rfl
  | s :: r, h => by
    have h1 := h s (by simp)
    have h2 := sum_ones (ns := r) fun s hs => h s (by simp [hs])
    simp only [Vl.sum, List.length_cons]; omega
theorem short_ones {ns : List ByteArray} (h : Ones ns) : Vl.short ns = true := by
  unfold Vl.short
  rw [List.all_eq_true]
  intro s hs
  rw [h s hs]; rfl
theorem fst_of {β : Type} (f : ByteArray → ByteArray × β) (hf : ∀ s, (f s).1 = s) (ns : List ByteArray) : (ns.map f).map Prod.fst = ns := by
  rw [List.map_map]
  conv => rhs; rw [← List.map_id ns]
  exact List.map_congr_left fun s _ => hf s
theorem names_h (ns : List ByteArray) : (xh ns).names = ns := fst_of _ (fun _ => rfl) ns
theorem names_s (ns : List ByteArray) : (xs ns).names = ns := fst_of _ (fun _ => rfl) ns
theorem names_p (ns : List ByteArray) : (xp ns).names = ns := fst_of _ (fun _ => rfl) ns
theorem sum_h : ∀ ns : List ByteArray, Vl.sum ((hl ns).flatMap fun f => [f.1, f.2]) = Vl.sum ns
  | [] => rfl
  | s :: r => by
    have := sum_h r
    simp only [hl, List.map_cons, List.flatMap_cons, List.cons_append, List.nil_append, Vl.sum] at this ⊢
    rw [this]
    show s.size + (0 + Vl.sum r) = _
    omega
theorem short_h : ∀ ns : List ByteArray, Vl.short ((hl ns).flatMap fun f => [f.1, f.2]) = Vl.short ns
  | [] => rfl
  | s :: r => by
    have := short_h r
    simp only [hl, Vl.short, List.map_cons, List.flatMap_cons, List.cons_append, List.nil_append, List.all_cons] at this ⊢
    rw [this]
    have : decide ((⟨#[]⟩ : ByteArray).size ≤ 4096) = true := by decide
    rw [this, Bool.true_and]
theorem texts_s (ns : List ByteArray) : (xs ns).texts = ns := names_s ns
theorem texts_p (ns : List ByteArray) : (xp ns).texts = ns := names_p ns
theorem texts_h (ns : List ByteArray) : (xh ns).texts = (hl ns).flatMap fun f => [f.1, f.2] := by simp [Vl.texts, xh]
theorem size_h {ns : List ByteArray} (h : Ones ns) : (xh ns).size = 16 + 17 * ns.length := by
  unfold Vl.size
  rw [texts_h, sum_h, sum_ones h]
  simp [Vl.many, Vl.len, xh, hl]; omega
theorem size_s {ns : List ByteArray} (h : Ones ns) : (xs ns).size = 16 + 17 * ns.length := by
  unfold Vl.size
  rw [texts_s, sum_ones h]
  simp [Vl.many, Vl.len, xs, sl]; omega
theorem size_p {ns : List ByteArray} (h : Ones ns) : (xp ns).size = 16 + 17 * ns.length := by
  unfold Vl.size
  rw [texts_p, sum_ones h]
  simp [Vl.many, Vl.len, xp, pl]; omega
theorem may_h {ns : List ByteArray} (pt : Nat × Nat → Bool) (h : Ones ns) (h1 : 1 ≤ ns.length) (h2 : ns.length ≤ 12) : (xh ns).may pt = Vl.rise ns := by
  have e : (xh ns).may pt = (decide ((xh ns).all = (xh ns).len) && (((xh ns).many && decide (1 ≤ (xh ns).len) && decide ((xh ns).len ≤ 1000) && (xh ns).inOrder pt) || decide ((xh ns).kind = 1)) && Vl.short (xh ns).texts && decide ((xh ns).size ≤ 262144)) := rfl
  have l1 : (xh ns).len = ns.length := by simp [Vl.len, xh, hl]
  have l2 : (xh ns).all = ns.length := by simp [Vl.all, xh, hl]; rfl
  have l3 : (xh ns).inOrder pt = Vl.rise ns := by
    have : (xh ns).inOrder pt = Vl.rise (xh ns).names := by simp [Vl.inOrder, xh]
    rw [this, names_h]
  have l4 : (xh ns).many = true := rfl
  have l5 : (xh ns).kind = 3 := rfl
  rw [e, l1, l2, l3, l4, l5, texts_h, short_h, short_ones h, size_h h, decide_eq_true h1, decide_eq_true (show ns.length ≤ 1000 by omega), decide_eq_true (show 16 + 17 * ns.length ≤ 262144 by omega)]
  simp
theorem may_s {ns : List ByteArray} (pt : Nat × Nat → Bool) (h : Ones ns) (h1 : 1 ≤ ns.length) (h2 : ns.length ≤ 12) : (xs ns).may pt = Vl.rise ns := by
  have e : (xs ns).may pt = (decide ((xs ns).all = (xs ns).len) && (((xs ns).many && decide (1 ≤ (xs ns).len) && decide ((xs ns).len ≤ 1000) && (xs ns).inOrder pt) || decide ((xs ns).kind = 1)) && Vl.short (xs ns).texts && decide ((xs ns).size ≤ 262144)) := rfl
  have l1 : (xs ns).len = ns.length := by simp [Vl.len, xs, sl]
  have l2 : (xs ns).all = ns.length := by simp [Vl.all, xs, sl]; rfl
  have l3 : (xs ns).inOrder pt = Vl.rise ns := by
    have : (xs ns).inOrder pt = (Vl.sorted (sl ns) && Vl.unique (sl ns)) := by simp [Vl.inOrder, xs]
    rw [this]
    exact scores_rise 7 ns
  have l4 : (xs ns).many = true := rfl
  have l5 : (xs ns).kind = 4 := rfl
  rw [e, l1, l2, l3, l4, l5, texts_s, short_ones h, size_s h, decide_eq_true h1, decide_eq_true (show ns.length ≤ 1000 by omega), decide_eq_true (show 16 + 17 * ns.length ≤ 262144 by omega)]
  simp
theorem may_p {ns : List ByteArray} (pt : Nat × Nat → Bool) (hp : pt (0, 0) = true) (h : Ones ns) (h1 : 1 ≤ ns.length) (h2 : ns.length ≤ 12) : (xp ns).may pt = Vl.rise ns := by
  have e : (xp ns).may pt = (decide ((xp ns).all = (xp ns).len) && (((xp ns).many && decide (1 ≤ (xp ns).len) && decide ((xp ns).len ≤ 1000) && (xp ns).inOrder pt) || decide ((xp ns).kind = 1)) && Vl.short (xp ns).texts && decide ((xp ns).size ≤ 262144)) := rfl
  have l1 : (xp ns).len = ns.length := by simp [Vl.len, xp, pl]
  have l2 : (xp ns).all = ns.length := by simp [Vl.all, xp, pl]; rfl
  have l3 : (xp ns).inOrder pt = Vl.rise ns := by
    have : (xp ns).inOrder pt = (((pl ns).all fun p => pt p.2) && Vl.rise (xp ns).names) := by simp [Vl.inOrder, xp]
    rw [this, names_p]
    have : ((pl ns).all fun p => pt p.2) = true := by
      rw [List.all_eq_true]
      intro p hq
      obtain ⟨s, _, rfl⟩ := List.mem_map.1 hq
      exact hp
    rw [this, Bool.true_and]
  have l4 : (xp ns).many = true := rfl
  have l5 : (xp ns).kind = 5 := rfl
  rw [e, l1, l2, l3, l4, l5, texts_p, short_ones h, size_p h, decide_eq_true h1, decide_eq_true (show ns.length ≤ 1000 by omega), decide_eq_true (show 16 + 17 * ns.length ≤ 262144 by omega)]
  simp
theorem may_zero (w : World) : Calls Try.prog 44 #[.complex .f64 0 0] w fun e w' => e = .returned (.bool true) ∧ Below w.heap.size w w' := by
  have h := may_pv 0 0 (by decide) (by decide) w
  have e : Pv 0 0 = .complex .f64 0 0 := by unfold Pv; rw [fw00]
  have d : decide (In 0 0) = true := by decide
  rw [e, d] at h
  exact h.mono fun e w' ⟨he, hw⟩ => ⟨he, by subst hw; exact Below.refl _ _⟩
theorem ok_h {ns : List ByteArray} (h : Ones ns) (h2 : ns.length ≤ 12) : VlOk (fun _ => true) (xh ns) where
  list := by simp [xh]
  fields := by simp [xh, hl]; omega
  scores := by simp [xh]
  points := by simp [xh]
  text := by simp only [xh]; decide
  size := by rw [size_h h]; omega
  names := by simp [xh]
  may := by simp [xh]
theorem ok_s {ns : List ByteArray} (h : Ones ns) (h2 : ns.length ≤ 12) : VlOk (fun _ => true) (xs ns) where
  list := by simp [xs]
  fields := by simp [xs]
  scores := by simp [xs, sl]; omega
  points := by simp [xs]
  text := by simp only [xs]; decide
  size := by rw [size_s h]; omega
  names := by
    intro e he
    obtain ⟨s, hs, rfl⟩ := List.mem_map.1 he
    have := h s hs
    simp only
    unfold maxLen; omega
  may := by simp [xs]
theorem ok_p {ns : List ByteArray} (h : Ones ns) (h2 : ns.length ≤ 12) : VlOk (fun _ => true) (xp ns) where
  list := by simp [xp]
  fields := by simp [xp]
  scores := by simp [xp]
  points := by simp [xp, pl]; omega
  text := by simp only [xp]; decide
  size := by rw [size_p h]; omega
  names := by simp [xp]
  may := by
    intro e he w
    obtain ⟨s, hs, rfl⟩ := List.mem_map.1 he
    exact may_zero w
/-- The worlds behind the loop: the three boxes hold what they held. -/
def Tri (w wr W : World) (vh vs vp : Value) : Prop := Below wr.heap.size wr W ∧
  Six W w.heap.size (.int .i64 3) (.string ⟨#[]⟩) (.slice none 0 0) vh (.slice none 0 0) (.slice none 0 0) ∧
  Six W (w.heap.size + 1) (.int .i64 4) (.string ⟨#[]⟩) (.slice none 0 0) (.slice none 0 0) vs (.slice none 0 0) ∧
  Six W (w.heap.size + 1 + 1) (.int .i64 5) (.string ⟨#[]⟩) (.slice none 0 0) (.slice none 0 0) (.slice none 0 0) vp
theorem Tri.of {w wr W : World} {vh vs vp : Value} (B : OB w wr vh vs vp) (h : Below wr.heap.size wr W) : Tri w wr W vh vs vp :=
  ⟨h, Blk.six (B.a.below h), Blk.six (B.b.below h), Blk.six (B.c.below h)⟩
theorem tri_call {w wr W : World} {vh vs vp : Value} {f : FuncId} {args : Array Value} {E : Ending} (B : OB w wr vh vs vp) (h : Below wr.heap.size wr W)
    (k : Calls Try.prog f args W fun e w' => e = E ∧ Below W.heap.size W w') : Calls Try.prog f args W fun e w' => e = E ∧ Tri w wr w' vh vs vp :=
  k.mono fun e w' ⟨he, hb⟩ => ⟨he, Tri.of B (below_then h hb)⟩
end Go.Proofs.Ytgokjdlemfaagaa
