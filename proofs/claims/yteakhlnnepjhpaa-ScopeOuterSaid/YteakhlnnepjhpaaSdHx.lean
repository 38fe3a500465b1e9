/- The functions within a tree, as the law ScopeOuter gathers them: plain; rows of them in memory. -/
import Derived.Test.YteakhlnnepjhpaaSdEx
namespace Go.Proofs.Yteakhlnnepjhpaa
open Go.RowKit PrM
set_option linter.unusedVariables false
set_option linter.unusedSimpArgs false
namespace PrM
/-- The functions that stand within an element, within a row's elements. -/
def fns : X → List (List ByteArray × X) × List (List ByteArray × X)
 | .nil => ([], [])
 | .cons h t => ([], (fns h).1 ++ (fns t).2)
 | .e _ _ _ _ _ l f => ((fns l).2 ++ (fns f).2, [])
 | .f ps b => ((ps, b) :: (fns b).2, [])
 | .s _ _ _ l b => ((fns l).2 ++ (fns b).2, [])
 | .blk l => ((fns l).2, [])
theorem fns_len : ∀ x : X, (fns x).1.length ≤ ScM.sz x ∧ (fns x).2.length ≤ ScM.sz x
 | .nil => ⟨Nat.zero_le _, Nat.zero_le _⟩
 | .cons h t => by
  have a := fns_len h
  have b := fns_len t
  refine ⟨Nat.zero_le _, ?_⟩
  show ((fns h).1 ++ (fns t).2).length ≤ ScM.sz h + ScM.sz t
  rw [List.length_append]
  omega
 | .e k a n s op l f => by
  have u := fns_len l
  have v := fns_len f
  refine ⟨?_, Nat.zero_le _⟩
  show ((fns l).2 ++ (fns f).2).length ≤ 1 + ScM.sz l + ScM.sz f
  rw [List.length_append]
  omega
 | .f ps b => by
  have u := fns_len b
  refine ⟨?_, Nat.zero_le _⟩
  show ((fns b).2).length + 1 ≤ 1 + ps.length + ScM.sz b
  omega
 | .s k a ns l b => by
  have u := fns_len l
  have v := fns_len b
  refine ⟨?_, Nat.zero_le _⟩
  show ((fns l).2 ++ (fns b).2).length ≤ 1 + ns.length + ScM.sz l + ScM.sz b + b.len * (1 + ns.length)
  rw [List.length_append]
  omega
 | .blk l => ⟨(fns_len l).2, Nat.zero_le _⟩
/-- What each of them is. -/
structure Fine (n : Nat) (p : List ByteArray × X) : Prop where
 row : ScM.row 5 p.2
 wf : ScM.wf p.2
 fit : p.2.fit 100000
 shp : Shp p.2
 ps : ∀ q ∈ p.1, q.size ≤ 100000
 sz : p.1.length + ScM.sz p.2 ≤ n
theorem Fine.wide {n m : Nat} {p : List ByteArray × X} (h : Fine n p) (k : n ≤ m) : Fine m p := { h with sz := Nat.le_trans h.sz k }
theorem fns_fine (x : X) : ScM.wf x → x.fit 100000 → Shp x → (∀ p ∈ (fns x).1, Fine (ScM.sz x) p) ∧ (∀ p ∈ (fns x).2, Fine (ScM.sz x) p) := by
 induction x with
 | nil => exact fun _ _ _ => ⟨fun _ h => (nomatch h), fun _ h => (nomatch h)⟩
 | cons h t u v =>
  intro w f s
  have a := u w.1 f.1 s.1
  have b := v w.2 f.2.1 s.2
  refine ⟨fun _ h => (nomatch h), fun p hp => ?_⟩
  rcases List.mem_append.1 hp with hp | hp
  ·exact (a.1 p hp).wide (Nat.le_add_right _ _)
  ·exact (b.2 p hp).wide (Nat.le_add_left _ _)
 | e k a m sv op l fv u v =>
  intro w f s
  have a := u w.2.2.1 f.1.1 s.2.1
  have b := v w.2.2.2 f.1.2 s.2.2
  refine ⟨fun p hp => ?_, fun _ h => (nomatch h)⟩
  rcases List.mem_append.1 hp with hp | hp
  ·exact (a.2 p hp).wide (by simp only [ScM.sz]; omega)
  ·exact (b.2 p hp).wide (by simp only [ScM.sz]; omega)
 | f ps b u =>
  intro w f s
  have a := u w.2 f.1.2 s
  refine ⟨fun p hp => ?_, fun _ h => (nomatch h)⟩
  rcases List.mem_cons.1 hp with rfl | hp
  ·exact ⟨w.1, w.2, f.1.2, s, f.2, by simp only [ScM.sz]; omega⟩
  ·exact (a.2 p hp).wide (by simp only [ScM.sz]; omega)
 | s k a ns l b u v =>
  intro w f s
  have a := u w.2.2.1 f.1.2.1 s.2.1
  have b := v w.2.2.2 f.1.2.2 s.2.2
  refine ⟨fun p hp => ?_, fun _ h => (nomatch h)⟩
  rcases List.mem_append.1 hp with hp | hp
  ·exact (a.2 p hp).wide (by simp only [ScM.sz]; omega)
  ·exact (b.2 p hp).wide (by simp only [ScM.sz]; omega)
 | blk l u =>
  intro w f s
  exact ⟨(u w.2 f s).2, fun _ h => (nomatch h)⟩
/-- Of a row's first elements. -/
def fnsI (x : X) (i : Nat) : List (List ByteArray × X) := ((x.elems.take i).map fun y => (fns y).1).flatten
theorem fnsI_zero (x : X) : fnsI x 0 = [] := rfl
theorem fnsI_succ {x y : X} {i : Nat} (h : x.elems[i]? = some y) : fnsI x (i + 1) = fnsI x i ++ (fns y).1 := by
 unfold fnsI
 rw [List.take_add_one, h, List.map_append, List.flatten_append]
 simp
theorem fns_row : ∀ x : X, (fns x).2 = (x.elems.map fun y => (fns y).1).flatten
 | .cons h t => by show (fns h).1 ++ (fns t).2 = _; rw [fns_row t]; rfl
 | .nil => rfl
 | .e .. => rfl
 | .f .. => rfl
 | .s .. => rfl
 | .blk _ => rfl
theorem fnsI_end {x : X} {i : Nat} (h : x.len ≤ i) : fnsI x i = (fns x).2 := by
 unfold fnsI
 rw [List.take_of_length_le (by rw [elems_len]; exact h), fns_row]
theorem fnsI_len (x : X) : ∀ i, (fnsI x i).length ≤ ScM.tot ScM.sz x.elems i
 | 0 => Nat.zero_le _
 | i + 1 => by
  have ih := fnsI_len x i
  cases e : x.elems[i]? with
  | some y =>
   rw [fnsI_succ e, ScM.tot_succ e, List.length_append]
   have := (fns_len y).1
   omega
  | none =>
   have hl := List.getElem?_eq_none_iff.1 e
   rw [ScM.tot_end (Nat.le_succ_of_le hl), ← ScM.tot_end hl]
   have e2 : fnsI x (i + 1) = fnsI x i := by unfold fnsI; rw [List.take_of_length_le (Nat.le_succ_of_le hl), List.take_of_length_le hl]
   rw [e2]
   exact ih
theorem fnsI_le (x : X) (i : Nat) : (fnsI x i).length ≤ ScM.sz x := Nat.le_trans (fnsI_len x i) (Nat.le_trans (ScM.tot_le _ _ _) (ScM.sum_sz x))
end PrM
/-- A function's two cells. -/
def Fv (w : World) (P : Nat → Prop) (u0 u1 : Value) (p : List ByteArray × X) : Prop := Strs w P u0 p.1 ∧ Sl p.2.len (Rd w P p.2).row 5 u1
def Fl (w : World) (P : Nat → Prop) : List Value → List (List ByteArray × X) → Prop
 | cs, [] => cs = []
 | cs, p :: l => ∃ u0 u1 r, cs = u0 :: u1 :: r ∧ Fv w P u0 u1 p ∧ Fl w P r l
section
variable {w w' : World} {P : Nat → Prop}
theorem Fv.move {u0 u1 : Value} {p : List ByteArray × X} (h : Fv w P u0 u1 p) (m : Moves w w' P P) : Fv w' P u0 u1 p := ⟨h.1.move m, h.2.imp (Rd.move m p.2).2.1⟩
theorem Fl.move (m : Moves w w' P P) : ∀ {l : List (List ByteArray × X)} {cs : List Value}, Fl w P cs l → Fl w' P cs l
 | [], _, h => h
 | p :: l, cs, ⟨u0, u1, r, e, h, k⟩ => ⟨u0, u1, r, e, h.move m, Fl.move m k⟩
theorem Fl.append : ∀ {l m : List (List ByteArray × X)} {cs ds : List Value}, Fl w P cs l → Fl w P ds m → Fl w P (cs ++ ds) (l ++ m)
 | [], m, cs, ds, h, k => by obtain rfl : cs = [] := h; exact k
 | p :: l, m, cs, ds, ⟨u0, u1, r, e, h, q⟩, k => ⟨u0, u1, r ++ ds, by rw [e]; rfl, h, Fl.append q k⟩
theorem Fl.len : ∀ {l : List (List ByteArray × X)} {cs : List Value}, Fl w P cs l → cs.length = l.length * 2
 | [], cs, h => by obtain rfl : cs = [] := h; rfl
 | p :: l, cs, ⟨u0, u1, r, e, h, q⟩ => by
  have := Fl.len q
  rw [e]
  simp only [List.length_cons]
  omega
theorem Fl.one : ∀ {l : List (List ByteArray × X)} {cs : List Value}, Fl w P cs l → ∀ u ∈ cs, u.oneCell' = true
 | [], cs, h, u, hu => by obtain rfl : cs = [] := h; exact nomatch hu
 | p :: l, cs, ⟨u0, u1, r, e, h, q⟩, u, hu => by
  subst e
  rcases List.mem_cons.1 hu with rfl | hu
  ·obtain ⟨A, c, rfl⟩ := strs_slice h.1
   rfl
  ·rcases List.mem_cons.1 hu with rfl | hu
   ·obtain ⟨A, c, rfl, -⟩ := h.2
    rfl
   ·exact Fl.one q u hu
theorem Fl.at : ∀ {l : List (List ByteArray × X)} {cs : List Value} {i : Nat} {p : List ByteArray × X}, Fl w P cs l → l[i]? = some p → ∃ u0 u1, cs[i * 2]? = some u0 ∧ cs[i * 2 + 1]? = some u1 ∧ Fv w P u0 u1 p
 | [], _, _, _, _, e => nomatch e
 | q :: l, cs, 0, p, ⟨u0, u1, r, e, h, _⟩, k => by
  obtain rfl := Option.some.inj k
  subst e
  exact ⟨u0, u1, rfl, rfl, h⟩
 | q :: l, cs, i + 1, p, ⟨u0, u1, r, e, h, g⟩, k => by
  obtain ⟨v0, v1, x, y, z⟩ := Fl.at g (i := i) k
  subst e
  have e2 : (i + 1) * 2 = i * 2 + 1 + 1 := by omega
  exact ⟨v0, v1, by rw [e2]; exact x, by rw [e2]; exact y, z⟩
end
/-- A row of functions of the call's own, in a block from B on. -/
def FO (w : World) (B : Nat) (P : Nat → Prop) (v : Value) (l : List (List ByteArray × X)) : Prop := ∃ cs, w.ownsRow B 36 2 v l.length cs ∧ Fl w P cs l
theorem FO.keep {w w' : World} {B : Nat} {P : Nat → Prop} {v : Value} {l : List (List ByteArray × X)} (h : FO w B P v l) (b : Below w.heap.size w w') (hP : ∀ q, P q → q < B) (hB : B ≤ w.heap.size) : FO w' B P v l := by
 obtain ⟨cs, h1, h2⟩ := h
 exact ⟨cs, own_same h1 fun q e => b.block q (own_lt h1 q e).2, h2.move ⟨b.size, fun p hp _ => World.cell?_of_block (b.block _ (by have := hP _ hp; omega)), fun _ h _ => h⟩⟩
theorem FO.nil (w : World) (B : Nat) (P : Nat → Prop) : FO w B P (.slice none 0 0) [] := ⟨[], World.ownsRow_nil w B _ _, rfl⟩
theorem FO.shape {w : World} {B : Nat} {P : Nat → Prop} {v : Value} {l : List (List ByteArray × X)} (h : FO w B P v l) : ∃ A c, v = .slice A l.length c ∧ l.length ≤ c ∧ (A = none → c = 0) := by
 obtain ⟨cs, h1, h2⟩ := h
 rcases h1.2 with ⟨rfl, h0⟩ | ⟨p, cap, cur, rfl, hp, hb, hn, -⟩
 ·exact ⟨none, 0, by rw [h0], by omega, fun _ => rfl⟩
 ·exact ⟨_, cap, rfl, hn, fun e => nomatch e⟩
theorem infoFn : (Try.prog.info? 36).map (fun i => (i.zero, i.size, i.bytes)) = some (some (.agg #[.slice none 0 0, .slice none 0 0]), 2, 48) := by kernel_rfl
/-- append of such a row. -/
theorem run_append_fs (w : World) (ty : TypeId) (B B2 : Nat) (P : Nat → Prop) (v u : Value) (l m : List (List ByteArray × X)) (hv : FO w B P v l) (hu : FO w B2 P u m) (hP : ∀ q, P q → q < B) (hl : l.length + m.length ≤ 1000000000000) (hb : B ≤ w.heap.size) :
  ∃ v' w', (Builtin.append_ #[30, 30] ty #[v, u]).run Try.prog w = .ok v' w' ∧ FO w' B P v' (l ++ m) ∧ Below B w w' ∧ w.grownBy w' v.ownBlock := by
 obtain ⟨i, hi, hz, k1, k2⟩ := info_parts infoFn
 obtain ⟨cs, hv1, hv2⟩ := hv
 obtain ⟨ds, hu1, hu2⟩ := hu
 have dl := hu2.len
 have fin : ∀ v' w', w'.ownsRow B 36 2 v' (l.length + m.length) (cs ++ ds) → w.grownBy w' v.ownBlock → FO w' B P v' (l ++ m) ∧ Below B w w' ∧ w.grownBy w' v.ownBlock := fun v' w' o g => by
  have be : Below B w w' := (Below.refl B w).grown g hb (fun k e => (own_lt hv1 k e).1)
  refine ⟨⟨cs ++ ds, by rw [List.length_append]; exact o, (hv2.append hu2).move ⟨be.size, fun p hp _ => World.cell?_of_block (be.block _ (hP _ hp)), fun _ h _ => h⟩⟩, be, g⟩
 rcases hu1.2 with ⟨rfl, h0⟩ | ⟨q, cap, cur, rfl, hq, hqb, hn, -⟩
 ·have e0 : m = [] := List.eq_nil_of_length_eq_zero h0
  subst e0
  obtain rfl : ds = [] := hu2
  obtain ⟨v', w', hrun, h2, h3, _, h5⟩ := run_append_own_at (P := Try.prog) w B 30 ty 36 i _ 2 48 Try.underlying30 hi hz k1 k2 rfl (by decide) v l.length cs hv1 ⟨0, 0, none⟩ 0 0 [] rfl (fun j y hj => by simp at hj) (fun u hu => by simp at hu) (by unfold maxLen; omega) (by omega) hb
  refine ⟨v', w', ?_, fin v' w' h2 h3⟩
  have hv : ∃ A n c, v = .slice A n c ∧ n ≤ c := by
   rcases hv1.2 with ⟨rfl, -⟩ | ⟨g, cap, cur, rfl, -, -, hn, -⟩
   ·exact ⟨_, _, _, rfl, Nat.le_refl _⟩
   ·exact ⟨_, _, _, rfl, hn⟩
  exact (append_none w _ _ ty i Try.underlying30 hi v ⟨0, 0, none⟩ hv).trans hrun
 ·obtain ⟨v', w', hrun, h2, h3, _, h5⟩ := run_append_own_at (P := Try.prog) w B 30 ty 36 i _ 2 48 Try.underlying30 hi hz k1 k2 rfl (by decide) v l.length cs hv1 ⟨q, 0, none⟩ m.length cap ds dl (fun j y hj => World.ownsRow.cells hu1 rfl j y hj) (fun u hu => hu2.one u hu) (by unfold maxLen; omega) (by omega) hb
  exact ⟨v', w', hrun, fin v' w' h2 h3⟩
end Go.Proofs.Yteakhlnnepjhpaa
