/- Package scope, plain: a walk over a tree leaves the names as they were but for those of statements, and lays down no more than the tree holds. No program is named. -/
import Derived.Test.YteakhlnnepjhpaaScMx
import Derived.Test.YteakhlnnepjhpaaTcRx
set_option linter.unusedVariables false
namespace Go.Proofs.Yteakhlnnepjhpaa.ScM
open PrM
/-- A sum over a list's first elements. -/
def tot (f : X → Nat) (l : List X) (i : Nat) : Nat := ((l.take i).map f).sum
theorem tot_succ {f : X → Nat} {l : List X} {i : Nat} {y : X} (h : l[i]? = some y) : tot f l (i + 1) = tot f l i + f y := by
 unfold tot
 rw [List.take_add_one, h]
 simp
theorem tot_le (f : X → Nat) : ∀ (l : List X) (i : Nat), tot f l i ≤ (l.map f).sum
 | [], i => by simp [tot]
 | a :: r, 0 => by simp [tot]
 | a :: r, i + 1 => by
  have := tot_le f r i
  unfold tot at this ⊢
  simp only [List.take_succ_cons, List.map_cons, List.sum_cons]
  omega
theorem tot_end {f : X → Nat} {l : List X} {i : Nat} (h : l.length ≤ i) : tot f l i = (l.map f).sum := by unfold tot; rw [List.take_of_length_le h]
theorem sum_sz : ∀ x : X, (x.elems.map sz).sum ≤ sz x
 | .cons h t => by
  have := sum_sz t
  show sz h + (t.elems.map sz).sum ≤ sz h + sz t
  omega
 | .nil => Nat.zero_le _
 | .e .. => Nat.zero_le _
 | .f .. => Nat.zero_le _
 | .s .. => Nat.zero_le _
 | .blk _ => Nat.zero_le _
theorem sum_blk (n : Nat) : ∀ x : X, (x.elems.map fun y => 1 + n + sz y).sum ≤ sz x + x.len * (1 + n)
 | .cons h t => by
  have := sum_blk n t
  show 1 + n + sz h + (t.elems.map fun y => 1 + n + sz y).sum ≤ sz h + sz t + (t.len + 1) * (1 + n)
  rw [Nat.add_mul, Nat.one_mul]
  omega
 | .nil => Nat.zero_le _
 | .e .. => Nat.zero_le _
 | .f .. => Nat.zero_le _
 | .s .. => Nat.zero_le _
 | .blk _ => Nat.zero_le _
theorem sem_row : ∀ x : X, (sem x).2 = x.elems.map fun y => (sem y).1
 | .cons h t => by show (sem h).1 :: (sem t).2 = _; rw [sem_row t]; rfl
 | .nil => rfl
 | .e .. => rfl
 | .f .. => rfl
 | .s .. => rfl
 | .blk _ => rfl
theorem dc_row : ∀ x : X, (dc x).2 = (x.elems.map fun y => (dc y).1).flatten
 | .cons h t => by show (dc h).1 ++ (dc t).2 = _; rw [dc_row t]; rfl
 | .nil => rfl
 | .e .. => rfl
 | .f .. => rfl
 | .s .. => rfl
 | .blk _ => rfl
theorem row_kz : ∀ {x : X} {z : Nat}, row z x → ∀ y ∈ x.elems, kz y = z
 | .cons h t, z, r, y, hy => by
  rcases List.mem_cons.1 hy with rfl | hy
  ·exact r.1
  ·exact row_kz r.2 y hy
 | .nil, _, _, _, hy => nomatch hy
 | .e .., _, r, _, _ => r.elim
 | .f .., _, r, _, _ => r.elim
 | .s .., _, r, _, _ => r.elim
 | .blk _, _, r, _, _ => r.elim
theorem wf_elems : ∀ {x : X}, wf x → ∀ y ∈ x.elems, wf y
 | .cons h t, r, y, hy => by
  rcases List.mem_cons.1 hy with rfl | hy
  ·exact r.1
  ·exact wf_elems r.2 y hy
 | .nil, _, _, hy => nomatch hy
 | .e .., _, _, hy => nomatch hy
 | .f .., _, _, hy => nomatch hy
 | .s .., _, _, hy => nomatch hy
 | .blk _, _, _, hy => nomatch hy
theorem dc_none {x : X} {z : Nat} (h : kz x = z) (hz : z = 7 ∨ z = 2) : (dc x).1 = [] := by
 cases x with
 | s => simp only [kz] at h; omega
 | blk => simp only [kz] at h; omega
 | _ => rfl
/-- A row's first actions. -/
def R (x : X) (i : Nat) (st : Sc) : Sc := runs (((sem x).2).take i) st
theorem R_zero (x : X) (st : Sc) : R x 0 st = st := rfl
theorem R_succ {x y : X} {i : Nat} (h : x.elems[i]? = some y) (st : Sc) : R x (i + 1) st = (sem y).1 (R x i st) := by
 unfold R
 rw [sem_row, List.take_add_one, List.getElem?_map, h, runs_append]
 rfl
theorem R_end {x : X} {i : Nat} (h : x.len ≤ i) (st : Sc) : R x i st = runs (sem x).2 st := by
 unfold R
 rw [List.take_of_length_le (by rw [sem_row, List.length_map, elems_len]; exact h)]
def RS (k : Int) (ps : List ByteArray) (x : X) (i : Nat) (st : Sc) : Sc := runs ((((sem x).2).map (scope k ps)).take i) st
theorem RS_zero (k : Int) (ps : List ByteArray) (x : X) (st : Sc) : RS k ps x 0 st = st := rfl
theorem RS_succ {k : Int} {ps : List ByteArray} {x l : X} {i : Nat} (h : x.elems[i]? = some (.blk l)) (st : Sc) : RS k ps x (i + 1) st = scope k ps (runs (sem l).2) (RS k ps x i st) := by
 unfold RS
 rw [sem_row, List.take_add_one, List.map_map, List.getElem?_map, h, runs_append]
 rfl
theorem RS_end {k : Int} {ps : List ByteArray} {x : X} {i : Nat} (h : x.len ≤ i) (st : Sc) : RS k ps x i st = runs ((sem x).2.map (scope k ps)) st := by
 unfold RS
 rw [List.take_of_length_le (by rw [List.length_map, sem_row, List.length_map, elems_len]; exact h)]
/-- The names that a row's first elements leave. -/
def dcI (x : X) (i : Nat) : List ByteArray := ((x.elems.take i).map fun y => (dc y).1).flatten
theorem dcI_zero (x : X) : dcI x 0 = [] := rfl
theorem dcI_succ {x y : X} {i : Nat} (h : x.elems[i]? = some y) : dcI x (i + 1) = dcI x i ++ (dc y).1 := by
 unfold dcI
 rw [List.take_add_one, h, List.map_append, List.flatten_append]
 simp
theorem dcI_end {x : X} {i : Nat} (h : x.len ≤ i) : dcI x i = (dc x).2 := by
 unfold dcI
 rw [List.take_of_length_le (by rw [elems_len]; exact h), dc_row]
def ExtE (y : X) : Prop := ∀ st, Ext (dc y).1 (sz y) st ((sem y).1 st)
theorem R_ext {x : X} (h : ∀ y ∈ x.elems, ExtE y) (st : Sc) : ∀ i, Ext (dcI x i) (tot sz x.elems i) st (R x i st)
 | 0 => Ext.refl st
 | i + 1 => by
  have ih := R_ext h st i
  cases e : x.elems[i]? with
  | some y =>
   rw [R_succ e, dcI_succ e, tot_succ e]
   exact ih.trans (h y (List.mem_of_getElem? e) _)
  | none =>
   have hl := List.getElem?_eq_none_iff.1 e
   rw [elems_len] at hl
   have hl2 := hl
   rw [← elems_len] at hl2
   rw [R_end hl, dcI_end hl, tot_end hl2] at ih
   rw [R_end (Nat.le_succ_of_le hl), dcI_end (Nat.le_succ_of_le hl), tot_end (Nat.le_succ_of_le hl2)]
   exact ih
theorem RS_ext {x : X} (h : ∀ y ∈ x.elems, ExtE y) (hr : row 1 x) (k : Int) (ps : List ByteArray) (st : Sc) : ∀ i, Ext [] (tot (fun y => 1 + ps.length + sz y) x.elems i) st (RS k ps x i st)
 | 0 => Ext.refl st
 | i + 1 => by
  have ih := RS_ext h hr k ps st i
  cases e : x.elems[i]? with
  | some y =>
   have hy := row_kz hr y (List.mem_of_getElem? e)
   have hE := h y (List.mem_of_getElem? e)
   rw [tot_succ e]
   cases y with
   | blk l =>
    rw [RS_succ e]
    exact ih.trans (scope_ext k ps (fun s => ⟨_, hE s⟩) _)
   | e => simp [kz] at hy
   | f => simp [kz] at hy
   | s => simp [kz] at hy
   | nil => simp [kz] at hy
   | cons => simp [kz] at hy
  | none =>
   have hl := List.getElem?_eq_none_iff.1 e
   rw [elems_len] at hl
   have hl2 := hl
   rw [← elems_len] at hl2
   rw [RS_end hl, tot_end hl2] at ih
   rw [RS_end (Nat.le_succ_of_le hl), tot_end (Nat.le_succ_of_le hl2)]
   exact ih
/-- Conditions and blocks in turn. -/
def CS (l b : X) (i : Nat) (st : Sc) : Sc := cs (sem l).2 ((sem b).2.map (scope 1 [])) i st
theorem CS_ext {l b : X} (hl : ∀ y ∈ l.elems, ExtE y) (hb : ∀ y ∈ b.elems, ExtE y) (rl : row 7 l) (rb : row 1 b) (st : Sc) : ∀ i, Ext [] (tot sz l.elems i + tot (fun y => 1 + 0 + sz y) b.elems i) st (CS l b i st)
 | 0 => Ext.refl st
 | i + 1 => by
  have ih := CS_ext hl hb rl rb st i
  have tl : ∀ f l, tot f l i ≤ tot f l (i + 1) := fun f l => by
   cases e : l[i]? with
   | some y => rw [tot_succ e]; omega
   | none =>
    have h := List.getElem?_eq_none_iff.1 e
    rw [tot_end h, tot_end (Nat.le_succ_of_le h)]
    exact Nat.le_refl _
  have h1 : Ext [] (tot sz l.elems (i + 1) + tot (fun y => 1 + 0 + sz y) b.elems i) st ((sem l).2.getD i id (CS l b i st)) := by
   rw [List.getD_eq_getElem?_getD, sem_row, List.getElem?_map]
   cases e : l.elems[i]? with
   | some y =>
    have k := ih.trans (hl y (List.mem_of_getElem? e) (CS l b i st))
    rw [dc_none (row_kz rl y (List.mem_of_getElem? e)) (.inl rfl)] at k
    rw [tot_succ e]
    exact k.wide (by omega)
   | none => exact ih.wide (by have := tl sz l.elems; omega)
  have h2 : ∀ s, Ext [] (tot sz l.elems (i + 1) + tot (fun y => 1 + 0 + sz y) b.elems i) st s → Ext [] (tot sz l.elems (i + 1) + tot (fun y => 1 + 0 + sz y) b.elems (i + 1)) st (((sem b).2.map (scope 1 [])).getD i id s) := fun s hs => by
   rw [List.getD_eq_getElem?_getD, sem_row, List.map_map, List.getElem?_map]
   cases e : b.elems[i]? with
   | some y =>
    have hE := hb y (List.mem_of_getElem? e)
    have k := hs.trans (scope_ext (body := (sem y).1) 1 [] (fun s => ⟨_, hE s⟩) s)
    rw [tot_succ e]
    exact k.wide (by simp only [List.length_nil]; omega)
   | none => exact hs.wide (by have := tl (fun y => 1 + 0 + sz y) b.elems; omega)
  exact h2 _ h1
theorem R_all {x : X} (h : ∀ y ∈ x.elems, ExtE y) (st : Sc) : Ext (dc x).2 (sz x) st (runs (sem x).2 st) := by
 have k := R_ext h st x.len
 rw [R_end (Nat.le_refl _), dcI_end (Nat.le_refl _)] at k
 exact k.wide (Nat.le_trans (tot_le _ _ _) (sum_sz x))
theorem R_calm {x : X} {z : Nat} (h : ∀ y ∈ x.elems, ExtE y) (hr : row z x) (hz : z = 7 ∨ z = 2) (st : Sc) (i : Nat) : Ext [] (tot sz x.elems i) st (R x i st) := by
 have k := R_ext h st i
 have e : dcI x i = [] := by
  unfold dcI
  rw [List.flatten_eq_nil_iff]
  intro l hl
  obtain ⟨y, hy, rfl⟩ := List.mem_map.1 hl
  exact dc_none (row_kz hr y (List.mem_of_mem_take hy)) hz
 rw [e] at k
 exact k
theorem R_calm_all {x : X} {z : Nat} (h : ∀ y ∈ x.elems, ExtE y) (hr : row z x) (hz : z = 7 ∨ z = 2) (st : Sc) : Ext [] (sz x) st (runs (sem x).2 st) := by
 have k := R_calm h hr hz st x.len
 rw [R_end (Nat.le_refl _)] at k
 exact k.wide (Nat.le_trans (tot_le _ _ _) (sum_sz x))
theorem RS_all {x : X} (h : ∀ y ∈ x.elems, ExtE y) (hr : row 1 x) (k : Int) (ps : List ByteArray) (st : Sc) : Ext [] (sz x + x.len * (1 + ps.length)) st (runs ((sem x).2.map (scope k ps)) st) := by
 have e := RS_ext h hr k ps st x.len
 rw [RS_end (Nat.le_refl _)] at e
 exact e.wide (Nat.le_trans (tot_le _ _ _) (sum_blk ps.length x))
theorem parts_ext {l b : X} (hl : ∀ y ∈ l.elems, ExtE y) (hb : ∀ y ∈ b.elems, ExtE y) (rl : row 7 l) (rb : row 1 b) (st : Sc) : Ext [] (sz l + (sz b + b.len * 1)) st (parts (sem l).2 (sem b).2 st) :=
 (R_calm_all hl rl (.inl rfl) st).trans (RS_all hb rb 1 [] _)
theorem CS_all {l b : X} (hl : ∀ y ∈ l.elems, ExtE y) (hb : ∀ y ∈ b.elems, ExtE y) (rl : row 7 l) (rb : row 1 b) (st : Sc) (i : Nat) : Ext [] (sz l + (sz b + b.len * 1)) st (CS l b i st) :=
 (CS_ext hl hb rl rb st i).wide (Nat.add_le_add (Nat.le_trans (tot_le _ _ _) (sum_sz l)) (Nat.le_trans (tot_le _ _ _) (sum_blk 0 b)))
theorem sem_ext (x : X) : wf x → ExtE x := by
 refine (X.all (S := fun x => wf x → ExtE x) ?_ ?_ ?_ ?_ ?_ ?_ x).1
 ·intro k a n s op l f hl hf w st
  have el := fun y hy => hl y hy (wf_elems w.2.2.1 y hy)
  have ef := fun y hy => hf y hy (wf_elems w.2.2.2 y hy)
  have h0 : Ext [] 1 st (if k = 6 then use s a st else st) := by
   split
   ·exact use_ext _ _ _
   ·exact (Ext.refl _).wide (by omega)
  exact ((h0.trans (R_calm_all el w.1 (.inl rfl) _)).trans (R_calm_all ef w.2.1 (.inr rfl) _))
 ·intro ps b hb w st
  exact scope_ext 3 ps (fun s => ⟨_, R_all (fun y hy => hb y hy (wf_elems w.2 y hy)) s⟩) st
 ·intro k a ns l b hl hb w st
  have el := fun y hy => hl y hy (wf_elems w.2.2.1 y hy)
  have eb := fun y hy => hb y hy (wf_elems w.2.2.2 y hy)
  have p : ∀ s, _ := fun s => parts_ext el eb w.1 w.2.1 s
  have m0 : b.len * 1 ≤ b.len * (1 + ns.length) := Nat.mul_le_mul (Nat.le_refl _) (by omega)
  show Ext (if k = 1 ∨ k = 12 then ns else []) (1 + ns.length + sz l + sz b + b.len * (1 + ns.length)) st (act k a ns l (sem l).2 (sem b).2 st)
  unfold act
  by_cases h1 : k = 1
  ·rw [if_pos h1, if_pos (.inl h1)]
   exact (((limit_ext ns a st).trans (p _)).trans (declare_ext ns _)).wide (by omega)
  rw [if_neg h1]
  by_cases h2 : k = 12
  ·rw [if_pos h2, if_pos (.inr h2)]
   have := ((limit_ext ns a st).trans (declare_ext ns _)).trans (p (declare ns (limit ns a st)))
   rw [List.nil_append, List.append_nil] at this
   exact this.wide (by omega)
  rw [if_neg h2, if_neg (by omega)]
  split
  ·exact ((target_ext l st).trans (p _)).wide (by omega)
  split
  ·exact (CS_all el eb w.1 w.2.1 st _).wide (by omega)
  split
  ·exact ((R_calm_all el w.1 (.inl rfl) st).trans (RS_all eb w.2.1 2 [] _)).wide (by simp only [List.length_nil, Nat.add_zero]; omega)
  split
  ·exact (((limit_ext ns a st).trans (R_calm_all el w.1 (.inl rfl) _)).trans (RS_all eb w.2.1 2 ns _)).wide (by omega)
  split
  ·exact (scope_ext 2 [] (fun s => ⟨_, ((R_all eb s).trans (R_calm_all el w.1 (.inl rfl) _))⟩) st).wide (by simp only [List.length_nil]; omega)
  split
  ·exact ((brk_ext a st).trans (p _)).wide (by omega)
  ·exact (p st).wide (by omega)
 ·intro l hl w st
  exact R_all (fun y hy => hl y hy (wf_elems w.2 y hy)) st
 ·intro _ st
  exact Ext.refl _
 ·intro h t _ st
  exact (Ext.refl _).wide (Nat.zero_le _)
end Go.Proofs.Yteakhlnnepjhpaa.ScM
