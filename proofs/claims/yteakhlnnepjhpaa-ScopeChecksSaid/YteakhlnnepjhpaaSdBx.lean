/- The document's parser, plain: how much its trees lay down, by the tokens that it goes over. No program is named. -/
import Derived.Test.YteakhlnnepjhpaaSdAx
import Derived.Test.YteakhlnnepjhpaaScMx
set_option linter.unusedVariables false
set_option linter.unusedSimpArgs false
namespace Go.Proofs.Yteakhlnnepjhpaa.PrM
open ScM (sz)
theorem sz_snoc_le : ∀ (l x : X), sz (l.snoc x) ≤ sz l + sz x
 | .nil, x => by show sz x + 0 ≤ 0 + sz x; omega
 | .cons h t, x => by
  show sz h + sz (t.snoc x) ≤ sz h + sz t + sz x
  have := sz_snoc_le t x
  omega
 | .e .., x => by show sz x + 0 ≤ _ + sz x; omega
 | .f .., x => by show sz x + 0 ≤ _ + sz x; omega
 | .s .., x => by show sz x + 0 ≤ _ + sz x; omega
 | .blk _, x => by show sz x + 0 ≤ _ + sz x; omega
theorem len_snoc_le (l x : X) : (l.snoc x).len ≤ l.len + 1 := by rw [X.len_snoc]; exact Nat.le_refl _
section
variable (T : List LxM.T) (w : Nat)
/-- What the tokens that are left may lay down. -/
def Ph (st : St) : Nat := w * (T.length - st.i)
def Bz (n : Nat) (st st' : St) (s : Nat) : Prop := st'.code = 0 → st.code = 0 ∧ n + Ph T w st' ≤ Ph T w st + s
variable {T w}
theorem Bz.refl (st : St) : Bz T w 0 st st 0 := fun h => ⟨h, by omega⟩
theorem Bz.trans {n m s t : Nat} {a b c : St} (h : Bz T w n a b s) (k : Bz T w m b c t) : Bz T w (n + m) a c (s + t) := fun q => by
 obtain ⟨k1, k2⟩ := k q
 obtain ⟨h1, h2⟩ := h k1
 exact ⟨h1, by omega⟩
theorem Bz.mono {n m s t : Nat} {a b : St} (h : Bz T w n a b s) (k : m + s ≤ n + t) : Bz T w m a b t := fun q => by
 obtain ⟨h1, h2⟩ := h q
 exact ⟨h1, by omega⟩
theorem Bz.bad {n s : Nat} {a b : St} (h : b.code ≠ 0) : Bz T w n a b s := fun q => absurd q h
theorem Bz.own (n : Nat) (st : St) : Bz T w n st st n := (Bz.refl st).mono (by omega)
theorem Bz.kind {st : St} (h : (tk T st).kind ≠ 0) : Bz T w w st (up st) 0 := fun q => by
 refine ⟨q, ?_⟩
 have hi : st.i < T.length := by
  rcases Nat.lt_or_ge st.i T.length with k | k
  ·exact k
  ·exfalso
   apply h
   unfold tk
   rw [List.getD_eq_getElem?_getD, List.getElem?_eq_none k]
   rfl
 show w + w * (T.length - (st.i + 1)) ≤ w * (T.length - st.i) + 0
 obtain ⟨k, hk⟩ : ∃ k, T.length - st.i = k + 1 := ⟨T.length - st.i - 1, by omega⟩
 rw [hk, show T.length - (st.i + 1) = k by omega, Nat.mul_succ]
 omega
theorem is_kind {x : ByteArray} {st : St} (h : is T x st = true) : (tk T st).kind ≠ 0 := by
 unfold is at h
 simp only [Bool.and_eq_true, Bool.or_eq_true, decide_eq_true_eq] at h
 rcases h.2.1 with k | k <;> rw [k] <;> decide
theorem Bz.is {x : ByteArray} {st : St} (h : is T x st = true) : Bz T w w st (up st) 0 := Bz.kind (is_kind h)
theorem fail_bad {c : Int} (hc : c ≠ 0) (st : St) : (fail T c st).code ≠ 0 := by
 unfold fail
 split
 ·exact hc
 ·rename_i h; exact h
theorem Bz.fail {n s : Nat} {c : Int} (hc : c ≠ 0) (a st : St) : Bz T w n a (fail T c st) s := Bz.bad (fail_bad hc st)
theorem Bz.take (x : ByteArray) (st : St) : Bz T w w st (take T x st) 0 := by
 unfold PrM.take
 split
 ·rename_i h; exact Bz.is h
 ·exact Bz.fail (by decide) _ _
theorem Bz.opt (x : ByteArray) (st : St) : Bz T w 0 st (opt T x st) 0 := by
 unfold PrM.opt
 split
 ·rename_i h; exact (Bz.is h).mono (by omega)
 ·exact Bz.refl _
theorem Bz.nameS (st : St) : Bz T w w st (nameS T st) 0 := by
 unfold PrM.nameS
 split
 ·split
  ·rename_i h; exact Bz.kind (by rw [h]; decide)
  ·exact Bz.fail (by decide) _ _
 ·rename_i h; exact Bz.bad h
theorem Bz.full (n m : Int) (st : St) : Bz T w 0 st (full T n m st) 0 := by
 unfold PrM.full
 split
 ·exact Bz.fail (by decide) _ _
 ·exact Bz.refl _
theorem Bz.deep (d : Int) (st : St) : Bz T w 0 st (deep T d st) 0 := by
 unfold PrM.deep
 split
 ·exact Bz.fail (by decide) _ _
 ·exact Bz.refl _
end
structure Sz (T : List LxM.T) (w : Nat) (g : Fs) : Prop where
 exp : ∀ d st, Bz T w (sz (g.exp d st).1) st (g.exp d st).2 2
 level : ∀ k d st, Bz T w (sz (g.level k d st).1) st (g.level k d st).2 2
 join : ∀ d st, Bz T w (sz (g.join d st).1) st (g.join d st).2 2
 unary : ∀ d st, Bz T w (sz (g.unary d st).1) st (g.unary d st).2 2
 post : ∀ d st, Bz T w (sz (g.post d st).1) st (g.post d st).2 2
 behind : ∀ x d st0 st s, Bz T w (sz x) st0 st s → Bz T w (sz (g.behind x d st).1) st0 (g.behind x d st).2 s
 table : ∀ a d st, Bz T w (sz (g.table a d st).1) st (g.table a d st).2 2
 body : ∀ d st, Bz T w (sz (g.body d st).1) st (g.body d st).2 1
 block : ∀ d st, Bz T w (sz (g.block d st).1) st (g.block d st).2 T.length
 stat : ∀ a d st, Bz T w (sz (g.stat (.s 0 a [] .nil .nil) d st).1) st (g.stat (.s 0 a [] .nil .nil) d st).2 1
section
variable {T : List LxM.T} {w : Nat} (hw : T.length + 10 ≤ w)
include hw
theorem levelL_sz {nx : St → X × St} (h : ∀ st, Bz T w (sz (nx st).1) st (nx st).2 2) (q : Nat) : ∀ (k : Nat) (a : X) (st0 st : St), Bz T w (sz a) st0 st 2 → Bz T w (sz (levelL T nx q k a st).1) st0 (levelL T nx q k a st).2 2
 | 0, a, st0, st, ha => ha
 | k + 1, a, st0, st, ha => by
  unfold levelL
  cases e : pick T st (ops q) with
  | none => exact ha
  | some c =>
   have hi : ∃ x, is T x st = true := by
    unfold pick at e
    rw [Option.map_eq_some_iff] at e
    obtain ⟨o, ho, -⟩ := e
    exact ⟨o.1, List.find?_some (p := fun o : ByteArray × Int => is T o.1 st) ho⟩
   obtain ⟨x, hx⟩ := hi
   refine levelL_sz h q k _ _ _ (((ha.trans (Bz.is hx)).trans (h (up st))).mono ?_)
   simp only [sz, X.two]
   omega
theorem argsL_sz {ex : St → X × St} (h : ∀ st, Bz T w (sz (ex st).1) st (ex st).2 2) : ∀ (k : Nat) (l : X) (st0 st : St) (s : Nat), Bz T w (sz l) st0 st s → Bz T w (sz (argsL T ex k l st).1) st0 (argsL T ex k l st).2 (s + 2)
 | 0, l, st0, st, s, hl => hl.mono (by show sz l + s ≤ sz l + (s + 2); omega)
 | k + 1, l, st0, st, s, hl => by
  unfold argsL
  split
  ·dsimp only
   generalize hs : full T ((l.len : Int) - 1) 16 st = s1
   have c := (hl.trans (by rw [← hs]; exact Bz.full (w := w) _ _ st)).trans (h s1)
   have z := sz_snoc_le l (ex s1).1
   split
   ·rename_i hc
    exact argsL_sz h k _ _ _ s ((c.trans (Bz.is hc)).mono (by omega))
   ·exact c.mono (by show sz (l.snoc (ex s1).1) + _ ≤ _; omega)
  ·exact hl.mono (by show sz l + s ≤ sz l + (s + 2); omega)
theorem behindL_sz {N : Nat} {ex : St → X × St} (h : ∀ st, Bz T w (sz (ex st).1) st (ex st).2 2) : ∀ (k : Nat) (e : X) (st0 st : St) (s : Nat), Bz T w (sz e) st0 st s → Bz T w (sz (behindL T ex N k e st).1) st0 (behindL T ex N k e st).2 s
 | 0, e, st0, st, s, he => he
 | k + 1, e, st0, st, s, he => by
  unfold behindL
  split
  ·split
   ·rename_i hc
    refine behindL_sz h k _ _ _ s (((he.trans (Bz.is hc)).trans (Bz.nameS _)).mono ?_)
    simp only [sz, X.two]
    omega
   ·split
    ·rename_i hc
     refine behindL_sz h k _ _ _ s ((((he.trans (Bz.is hc)).trans (h _)).trans (Bz.take _ _)).mono ?_)
     simp only [sz, X.two]
     omega
    ·split
     ·rename_i hc
      split
      ·rename_i hd
       refine behindL_sz h k _ _ _ s (((he.trans (Bz.is hc)).trans (Bz.is hd)).mono ?_)
       simp only [sz, X.one]
       omega
      ·dsimp only
       have a := argsL_sz hw h N (X.one e) (up st) (up st) (sz (X.one e)) (Bz.own _ _)
       refine behindL_sz h k _ _ _ s ((((he.trans (Bz.is hc)).trans a).trans (Bz.take _ _)).mono ?_)
       simp only [sz, X.one]
       omega
     ·exact he
  ·exact he
theorem tableL_sz {ex : St → X × St} (h : ∀ st, Bz T w (sz (ex st).1) st (ex st).2 2) : ∀ (k : Nat) (l : X) (m : Int) (st0 st : St) (s : Nat), Bz T w (sz l) st0 st s → Bz T w (sz (tableL T ex k l m st).1) st0 (tableL T ex k l m st).2 (s + 3)
 | 0, l, m, st0, st, s, hl => hl.mono (by show sz l + s ≤ sz l + (s + 3); omega)
 | k + 1, l, m, st0, st, s, hl => by
  unfold tableL
  split
  ·generalize hs : full T (((l.len / 2 : Nat)) : Int) 64 st = s1
   have hk : (fun r : X × Int × St => Bz T w (sz r.1) s1 r.2.2 1) (if s1.code ≠ 0 then ((.e 0 (place T s1) 0 ⟨#[]⟩ 1 .nil .nil : X), m, s1)
     else if is T ⟨#[91]⟩ s1 then ((ex (up s1)).1, m, take T ⟨#[61]⟩ (take T ⟨#[93]⟩ (ex (up s1)).2))
     else if (tk T s1).kind = 2 ∧ (tk T (up s1)).kind = 5 ∧ (tk T (up s1)).text = [61] then (.e 5 (place T s1) 0 (nameT T s1) 1 .nil .nil, m, take T ⟨#[61]⟩ (nameS T s1))
     else (.e 4 (place T s1) (m + 1) ⟨#[]⟩ 1 .nil .nil, m + 1, s1)) := by
    split
    ·rename_i hc; exact Bz.bad hc
    ·split
     ·rename_i hc
      exact ((((Bz.is hc).trans (h _)).trans (Bz.take _ _)).trans (Bz.take _ _)).mono (by dsimp only; omega)
     ·split
      ·exact ((Bz.nameS _).trans (Bz.take _ _)).mono (by simp only [sz]; omega)
      ·exact Bz.own _ _
   have c := hl.trans (Bz.full (w := w) (((l.len / 2 : Nat)) : Int) 64 st)
   rw [hs] at c
   dsimp only at hk ⊢
   generalize (if s1.code ≠ 0 then ((.e 0 (place T s1) 0 ⟨#[]⟩ 1 .nil .nil : X), m, s1)
     else if is T ⟨#[91]⟩ s1 then ((ex (up s1)).1, m, take T ⟨#[61]⟩ (take T ⟨#[93]⟩ (ex (up s1)).2))
     else if (tk T s1).kind = 2 ∧ (tk T (up s1)).kind = 5 ∧ (tk T (up s1)).text = [61] then (.e 5 (place T s1) 0 (nameT T s1) 1 .nil .nil, m, take T ⟨#[61]⟩ (nameS T s1))
     else (.e 4 (place T s1) (m + 1) ⟨#[]⟩ 1 .nil .nil, m + 1, s1)) = r at hk ⊢
   have c2 := (c.trans hk).trans (h r.2.2)
   have z1 := sz_snoc_le l r.1
   have z2 := sz_snoc_le (l.snoc r.1) (ex r.2.2).1
   split
   ·rename_i hc
    exact tableL_sz h k _ _ _ _ s ((c2.trans (Bz.is hc)).mono (by omega))
   ·split
    ·rename_i hc
     exact tableL_sz h k _ _ _ _ s ((c2.trans (Bz.is hc)).mono (by omega))
    ·exact c2.mono (by show sz ((l.snoc r.1).snoc (ex r.2.2).1) + _ ≤ _; omega)
  ·exact hl.mono (by show sz l + s ≤ sz l + (s + 3); omega)
theorem paramsL_sz : ∀ (k : Nat) (ps : List ByteArray) (st0 st : St) (s : Nat), Bz T w ps.length st0 st s → Bz T w (paramsL T k ps st).1.length st0 (paramsL T k ps st).2 s
 | 0, ps, st0, st, s, hp => hp
 | k + 1, ps, st0, st, s, hp => by
  unfold paramsL
  split
  ·dsimp only
   generalize hs : full T (ps.length : Int) 16 st = s1
   have c := (hp.trans (by rw [← hs]; exact Bz.full (w := w) _ _ st)).trans (Bz.nameS s1)
   split
   ·rename_i hc
    exact paramsL_sz k _ _ _ s ((c.trans (Bz.is hc)).mono (by simp only [List.length_append, List.length_cons, List.length_nil]; omega))
   ·exact c.mono (by simp only [List.length_append, List.length_cons, List.length_nil]; omega)
  ·exact hp
theorem blockL_sz {g : Fs} (h : Sz T w g) (d : Int) : ∀ (k : Nat) (l : X) (st0 st : St) (s : Nat), Bz T w (sz l) st0 st s → Bz T w (sz (blockL T g d k l st).1) st0 (blockL T g d k l st).2 (s + k)
 | 0, l, st0, st, s, hl => hl
 | k + 1, l, st0, st, s, hl => by
  unfold blockL
  split
  ·exact hl.mono (by show sz l + s ≤ sz l + (s + (k + 1)); omega)
  ·split
   ·rename_i hc
    have hr : (fun r : X × St => Bz T w (sz r.1) (up st) r.2 2) (if ends T (up st) = false ∧ is T ⟨#[59]⟩ (up st) = false then (X.one (g.exp d (up st)).1, (g.exp d (up st)).2) else (.nil, up st)) := by
     split
     ·exact (h.exp d (up st)).mono (by simp only [sz, X.one]; omega)
     ·exact (Bz.refl _).mono (by simp only [sz]; omega)
    dsimp only at hr ⊢
    generalize (if ends T (up st) = false ∧ is T ⟨#[59]⟩ (up st) = false then (X.one (g.exp d (up st)).1, (g.exp d (up st)).2) else ((.nil : X), up st)) = r at hr ⊢
    have c := ((hl.trans (Bz.is hc)).trans hr).trans (Bz.opt ⟨#[59]⟩ r.2)
    have z := sz_snoc_le l (.s 10 (place T st) [] r.1 .nil)
    have z2 : sz (.s 10 (place T st) [] r.1 .nil) = 1 + sz r.1 := by simp [sz, X.len]
    split
    ·exact c.mono (by omega)
    ·exact Bz.fail (by decide) _ _
   ·dsimp only
    have c := (hl.trans (h.stat (place T st) d st)).trans (Bz.opt ⟨#[59]⟩ _)
    have z := sz_snoc_le l (g.stat (.s 0 (place T st) [] .nil .nil) d st).1
    have := blockL_sz h d k (l.snoc (g.stat (.s 0 (place T st) [] .nil .nil) d st).1) st0 (PrM.opt T ⟨#[59]⟩ (g.stat (.s 0 (place T st) [] .nil .nil) d st).2) (s + 1) (c.mono (by omega))
    exact this.mono (by omega)
theorem ifL_sz {g : Fs} (h : Sz T w g) (d : Int) : ∀ (k : Nat) (l b : X) (st0 st : St) (s : Nat), Bz T w (sz l + sz b + b.len) st0 st s → Bz T w (sz (ifL T g d k l b st).1 + sz (ifL T g d k l b st).2.1 + (ifL T g d k l b st).2.1.len) st0 (ifL T g d k l b st).2.2 s
 | 0, l, b, st0, st, s, hl => hl
 | k + 1, l, b, st0, st, s, hl => by
  unfold ifL
  dsimp only
  have c := ((hl.trans (h.exp d st)).trans (Bz.take ⟨#[116, 104, 101, 110]⟩ _)).trans (h.block d _)
  have z1 := sz_snoc_le l (g.exp d st).1
  have z2 := sz_snoc_le b (.blk (g.block d (PrM.take T ⟨#[116, 104, 101, 110]⟩ (g.exp d st).2)).1)
  have z3 := X.len_snoc b (.blk (g.block d (PrM.take T ⟨#[116, 104, 101, 110]⟩ (g.exp d st).2)).1)
  have z4 : sz (.blk (g.block d (PrM.take T ⟨#[116, 104, 101, 110]⟩ (g.exp d st).2)).1) = sz (g.block d (PrM.take T ⟨#[116, 104, 101, 110]⟩ (g.exp d st).2)).1 := rfl
  split
  ·rename_i hc
   exact ifL_sz h d k _ _ _ _ s ((c.trans (Bz.is hc)).mono (by omega))
  ·exact c.mono (by dsimp only; omega)
theorem statS_sz {g : Fs} (h : Sz T w g) (d a : Int) (st : St) : Bz T w (sz (statS T g d a st).1) st (statS T g d a st).2 0 := by
 have bk : ∀ q : X, sz (.blk q) = sz q := fun q => rfl
 unfold statS
 split
 ·rename_i c0
  split
  ·rename_i c1
   have c := (((Bz.is c0).trans (Bz.is c1)).trans (Bz.nameS (w := w) (up (up st)))).trans (h.body d (nameS T (up (up st))))
   exact c.mono (by simp only [sz, X.one, X.len, List.length_cons, List.length_nil]; omega)
  ·dsimp only
   have c := (Bz.is c0).trans (Bz.nameS (w := w) (up st))
   split
   ·rename_i c2
    exact ((c.trans (Bz.is c2)).trans (h.exp d _)).mono (by simp only [sz, X.one, X.len, List.length_cons, List.length_nil]; omega)
   ·exact c.mono (by simp only [sz, X.len, List.length_cons, List.length_nil]; omega)
 split
 ·rename_i c0
  have hi := ifL_sz hw h d T.length .nil .nil (up st) (up st) 0 ((Bz.refl _).mono (by simp only [sz, X.len]; omega))
  dsimp only
  generalize ifL T g d T.length .nil .nil (up st) = r at hi ⊢
  have c := (Bz.is c0).trans hi
  split
  ·rename_i c1
   have c2 := ((c.trans (Bz.is c1)).trans (h.block d _)).trans (Bz.take ⟨#[101, 110, 100]⟩ _)
   have z2 := sz_snoc_le r.2.1 (.blk (g.block d (up r.2.2)).1)
   have z3 := X.len_snoc r.2.1 (.blk (g.block d (up r.2.2)).1)
   rw [bk] at z2
   refine c2.mono ?_
   show 1 + 0 + sz r.1 + sz (r.2.1.snoc (.blk (g.block d (up r.2.2)).1)) + (r.2.1.snoc (.blk (g.block d (up r.2.2)).1)).len * (1 + 0) + _ ≤ _
   omega
  ·refine (c.trans (Bz.take ⟨#[101, 110, 100]⟩ _)).mono ?_
   show 1 + 0 + sz r.1 + sz r.2.1 + r.2.1.len * (1 + 0) + _ ≤ _
   omega
 split
 ·rename_i c0
  have c := ((((Bz.is c0).trans (h.exp d _)).trans (Bz.take ⟨#[100, 111]⟩ _)).trans (h.block d _)).trans (Bz.take ⟨#[101, 110, 100]⟩ _)
  exact c.mono (by simp only [sz, X.one, X.len, List.length_nil]; omega)
 split
 ·rename_i c0
  have c := (((Bz.is c0).trans (h.block d _)).trans (Bz.take ⟨#[117, 110, 116, 105, 108]⟩ _)).trans (h.exp d _)
  exact c.mono (by simp only [sz, X.one, X.len, List.length_nil]; omega)
 split
 ·rename_i c0
  dsimp only
  generalize hs : nameS T (up st) = s1
  have c := (Bz.is c0).trans (Bz.nameS (w := w) (up st))
  rw [hs] at c
  have hh : (fun r : Int × List ByteArray × X × St => r.2.1.length ≤ 2 ∧ Bz T w (sz r.2.2.1) s1 r.2.2.2 2) (if is T ⟨#[44]⟩ s1 then ((7 : Int), [nameT T (up st), nameT T (up s1)], X.one (g.exp d (take T ⟨#[105, 110]⟩ (nameS T (up s1)))).1, (g.exp d (take T ⟨#[105, 110]⟩ (nameS T (up s1)))).2) else
    if is T ⟨#[44]⟩ (g.exp d (take T ⟨#[44]⟩ (g.exp d (take T ⟨#[61]⟩ s1)).2)).2 then ((6 : Int), [nameT T (up st)], ((X.one (g.exp d (take T ⟨#[61]⟩ s1)).1).snoc (g.exp d (take T ⟨#[44]⟩ (g.exp d (take T ⟨#[61]⟩ s1)).2)).1).snoc (g.exp d (up (g.exp d (take T ⟨#[44]⟩ (g.exp d (take T ⟨#[61]⟩ s1)).2)).2)).1, (g.exp d (up (g.exp d (take T ⟨#[44]⟩ (g.exp d (take T ⟨#[61]⟩ s1)).2)).2)).2)
    else ((6 : Int), [nameT T (up st)], (X.one (g.exp d (take T ⟨#[61]⟩ s1)).1).snoc (g.exp d (take T ⟨#[44]⟩ (g.exp d (take T ⟨#[61]⟩ s1)).2)).1, (g.exp d (take T ⟨#[44]⟩ (g.exp d (take T ⟨#[61]⟩ s1)).2)).2)) := by
   split
   ·rename_i k
    refine ⟨Nat.le_refl _, ((((Bz.is k).trans (Bz.nameS _)).trans (Bz.take _ _)).trans (h.exp d _)).mono ?_⟩
    simp only [sz, X.one]
    omega
   ·have k2 := (((Bz.take (w := w) ⟨#[61]⟩ s1).trans (h.exp d _)).trans (Bz.take ⟨#[44]⟩ _)).trans (h.exp d _)
    split
    ·rename_i k3
     refine ⟨Nat.le_succ _, ((k2.trans (Bz.is k3)).trans (h.exp d _)).mono ?_⟩
     show sz (X.cons _ (X.cons _ (X.cons _ X.nil))) + _ ≤ _
     simp only [sz]
     omega
    ·refine ⟨Nat.le_succ _, k2.mono ?_⟩
     show sz (X.cons _ (X.cons _ X.nil)) + _ ≤ _
     simp only [sz]
     omega
  dsimp only at hh ⊢
  generalize (if is T ⟨#[44]⟩ s1 then ((7 : Int), [nameT T (up st), nameT T (up s1)], X.one (g.exp d (take T ⟨#[105, 110]⟩ (nameS T (up s1)))).1, (g.exp d (take T ⟨#[105, 110]⟩ (nameS T (up s1)))).2) else
    if is T ⟨#[44]⟩ (g.exp d (take T ⟨#[44]⟩ (g.exp d (take T ⟨#[61]⟩ s1)).2)).2 then ((6 : Int), [nameT T (up st)], ((X.one (g.exp d (take T ⟨#[61]⟩ s1)).1).snoc (g.exp d (take T ⟨#[44]⟩ (g.exp d (take T ⟨#[61]⟩ s1)).2)).1).snoc (g.exp d (up (g.exp d (take T ⟨#[44]⟩ (g.exp d (take T ⟨#[61]⟩ s1)).2)).2)).1, (g.exp d (up (g.exp d (take T ⟨#[44]⟩ (g.exp d (take T ⟨#[61]⟩ s1)).2)).2)).2)
    else ((6 : Int), [nameT T (up st)], (X.one (g.exp d (take T ⟨#[61]⟩ s1)).1).snoc (g.exp d (take T ⟨#[44]⟩ (g.exp d (take T ⟨#[61]⟩ s1)).2)).1, (g.exp d (take T ⟨#[44]⟩ (g.exp d (take T ⟨#[61]⟩ s1)).2)).2)) = r at hh ⊢
  have c2 := (((c.trans hh.2).trans (Bz.take ⟨#[100, 111]⟩ _)).trans (h.block d _)).trans (Bz.take ⟨#[101, 110, 100]⟩ _)
  have hl := hh.1
  refine c2.mono ?_
  simp only [sz, X.one, X.len]
  omega
 split
 ·rename_i c0
  exact (Bz.is c0).mono (by simp only [sz, X.len, List.length_nil]; omega)
 split
 ·rename_i c0
  have c := ((Bz.is c0).trans (h.block d _)).trans (Bz.take ⟨#[101, 110, 100]⟩ _)
  exact c.mono (by simp only [sz, X.one, X.len, List.length_nil]; omega)
 ·have hb := h.behind (.e 6 (place T st) 0 (nameT T st) 0 .nil .nil) d (nameS T st) (nameS T st) 1 (Bz.own 1 _)
  generalize g.behind (.e 6 (place T st) 0 (nameT T st) 0 .nil .nil) d (nameS T st) = r at hb ⊢
  have c := (Bz.nameS (w := w) st).trans hb
  dsimp only
  split
  ·exact c.mono (by simp only [sz, X.one, X.len, List.length_nil]; omega)
  ·have hf : Bz T w 0 r.2 (if r.1.kind = 10 then fail T 14 r.2 else r.2) 0 := by
    split
    ·exact Bz.fail (by decide) _ _
    ·exact Bz.refl _
   exact (((c.trans hf).trans (Bz.take ⟨#[61]⟩ _)).trans (h.exp d _)).mono (by simp only [sz, X.two, X.len, List.length_nil]; omega)
theorem fs_sz : ∀ F, Sz T w (fs T F)
 | 0 => ⟨fun _ st => (Bz.own 1 st).mono (by show 1 + 0 + 0 + 1 ≤ 1 + 2; omega), fun _ _ st => (Bz.own 1 st).mono (by show 1 + 0 + 0 + 1 ≤ 1 + 2; omega), fun _ st => (Bz.own 1 st).mono (by show 1 + 0 + 0 + 1 ≤ 1 + 2; omega), fun _ st => (Bz.own 1 st).mono (by show 1 + 0 + 0 + 1 ≤ 1 + 2; omega), fun _ st => (Bz.own 1 st).mono (by show 1 + 0 + 0 + 1 ≤ 1 + 2; omega), fun _ _ _ _ _ h => h, fun _ _ st => (Bz.own 1 st).mono (by show 1 + 0 + 0 + 1 ≤ 1 + 2; omega), fun _ st => Bz.own 1 st, fun _ st => (Bz.refl st).mono (by show 0 + 0 ≤ 0 + T.length; omega), fun _ _ st => Bz.own 1 st⟩
 | F + 1 => by
  have h := fs_sz F
  have e0 : sz E0 = 1 := rfl
  exact {
   exp := fun d st => ((Bz.deep (d + 1) st).trans (h.level 0 (d + 1) _)).mono (by show sz ((fs T F).level 0 (d + 1) (deep T (d + 1) st)).1 + _ ≤ _; omega)
   level := fun k d st => by
    show Bz T w (sz (levelS T (fs T F) k d st).1) st (levelS T (fs T F) k d st).2 2
    unfold levelS
    split
    ·rename_i c; exact Bz.bad c
    ·split
     ·exact h.join _ _
     ·split
      ·exact h.unary _ _
      ·exact levelL_sz hw (h.level (k + 1) d) k T.length _ _ _ (h.level _ _ _)
   join := fun d st => by
    show Bz T w (sz (joinS T (fs T F) d st).1) st (joinS T (fs T F) d st).2 2
    unfold joinS
    dsimp only
    have a := h.level 4 d st
    split
    ·rename_i c
     have c2 := (a.trans (Bz.is c)).trans (Bz.deep (w := w) (d + 1) _)
     split
     ·rename_i k; exact Bz.bad k
     ·exact (c2.trans (h.join (d + 1) _)).mono (by simp only [sz, X.two]; omega)
    ·exact a
   unary := fun d st => by
    show Bz T w (sz (unaryS T (fs T F) d st).1) st (unaryS T (fs T F) d st).2 2
    unfold unaryS
    split
    ·exact h.post _ _
    ·rename_i c
     have ck : (tk T st).kind ≠ 0 := by
      unfold unK at c
      split at c
      ·rename_i k; exact is_kind k
      ·split at c
       ·rename_i k; exact is_kind k
       ·split at c
        ·rename_i k; exact is_kind k
        ·exact absurd rfl c
     dsimp only
     have c2 := (Bz.kind (w := w) ck).trans (Bz.deep (w := w) (d + 1) (up st))
     split
     ·rename_i k; exact Bz.bad k
     ·exact (c2.trans (h.unary (d + 1) _)).mono (by simp only [sz, X.one]; omega)
   post := fun d st => by
    show Bz T w (sz (postS T (fs T F) d st).1) st (postS T (fs T F) d st).2 2
    unfold postS
    split
    ·rename_i c; exact Bz.bad c
    split
    ·rename_i c
     exact (h.behind _ d _ _ 0 ((Bz.kind (w := w) (show (tk T st).kind ≠ 0 by rw [c]; decide)).mono (by simp only [sz]; omega))).mono (by omega)
    split
    ·rename_i c
     exact (h.behind _ d _ _ 0 (((((Bz.is c).trans (h.exp d _)).trans (Bz.take _ _))).mono (by omega))).mono (by dsimp only; omega)
    split
    ·rename_i c
     exact (Bz.kind (w := w) (show (tk T st).kind ≠ 0 by rw [c]; decide)).mono (by simp only [sz]; omega)
    split
    ·rename_i c
     exact (Bz.kind (w := w) (show (tk T st).kind ≠ 0 by rw [c]; decide)).mono (by simp only [sz]; omega)
    split
    ·rename_i c; exact (Bz.is c).mono (by simp only [sz]; omega)
    split
    ·rename_i c; exact (Bz.is c).mono (by simp only [sz]; omega)
    split
    ·rename_i c; exact (Bz.is c).mono (by simp only [sz]; omega)
    split
    ·rename_i c; exact ((Bz.is c).trans (h.body d _)).mono (by simp only [sz, X.one]; omega)
    split
    ·rename_i c; exact ((Bz.is c).trans (h.table _ d _)).mono (by omega)
    ·exact Bz.fail (by decide) _ _
   behind := fun x d st0 st s hx => behindL_sz hw (h.exp d) T.length x st0 st s hx
   table := fun a d st => by
    have c := (tableL_sz hw (h.exp d) T.length .nil 0 st st 0 ((Bz.refl st).mono (by simp only [sz]; omega))).trans (Bz.take (w := w) ⟨#[125]⟩ _)
    exact c.mono (by show 1 + sz (tableL T ((fs T F).exp d) T.length .nil 0 st).1 + 0 + _ ≤ _; omega)
   body := fun d st => by
    show Bz T w (sz (bodyS T (fs T F) d st).1) st (bodyS T (fs T F) d st).2 1
    unfold bodyS
    dsimp only
    have a : Bz T w w st (take T ⟨#[40]⟩ st) 0 := Bz.take _ _
    obtain ⟨s1, hs⟩ : ∃ s1, take T ⟨#[40]⟩ st = s1 := ⟨_, rfl⟩
    rw [hs] at a
    rw [hs]
    have hp : (fun p : List ByteArray × St => Bz T w p.1.length s1 p.2 0) (if is T ⟨#[41]⟩ s1 then ([], up s1) else ((paramsL T T.length [] s1).1, take T ⟨#[41]⟩ (paramsL T T.length [] s1).2)) := by
     split
     ·rename_i c; exact (Bz.is c).mono (by simp only [List.length_nil]; omega)
     ·have q := (paramsL_sz hw T.length [] s1 s1 0 ((Bz.refl s1).mono (by simp only [List.length_nil]; omega))).trans (Bz.take (w := w) ⟨#[41]⟩ _)
      exact q.mono (by dsimp only; omega)
    dsimp only at hp
    generalize (if is T ⟨#[41]⟩ s1 then (([] : List ByteArray), up s1) else ((paramsL T T.length [] s1).1, take T ⟨#[41]⟩ (paramsL T T.length [] s1).2)) = p at hp ⊢
    have c := ((a.trans hp).trans (h.block d _)).trans (Bz.take (w := w) ⟨#[101, 110, 100]⟩ _)
    exact c.mono (by simp only [sz]; omega)
   block := fun d st => by
    have c := blockL_sz hw h (d + 1) T.length .nil st (deep T (d + 1) st) 0 ((Bz.deep (d + 1) st).mono (by simp only [sz]; omega))
    exact c.mono (by show sz (blockL T (fs T F) (d + 1) T.length .nil (deep T (d + 1) st)).1 + _ ≤ _; omega)
   stat := fun a d st => (statS_sz hw h d a st).mono (by show sz (statS T (fs T F) d a st).1 + _ ≤ _; omega) }
theorem script_sz (h : (script T).2.code = 0) : sz (script T).1 ≤ w * T.length + T.length := by
 have b := (fs_sz hw 12000).block 0 ⟨0, 0, 0⟩
 unfold script at h ⊢
 dsimp only at h ⊢
 split at h
 ·exact absurd h (fail_bad (by decide) _)
 ·have := (b h).2
  have e : Ph T w ⟨0, 0, 0⟩ = w * T.length := rfl
  omega
end
end Go.Proofs.Yteakhlnnepjhpaa.PrM
