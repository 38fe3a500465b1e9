/- Texts of one proof behind one another: TeM, TeE, TeF. -/
import Derived.Test.YteakhlnnepjhpaaKc
/- Trees, plain: bare, counted, how deep, the same; how long their rows are. No program is named. -/
set_option linter.unusedVariables false
namespace Go.Proofs.Yteakhlnnepjhpaa.PrM
/-- 15.1: without places. -/
def X.bare : X → X
 | .nil => .nil
 | .cons h t => .cons h.bare t.bare
 | .e k _ n sv op l fv => .e k 0 n sv op l.bare fv.bare
 | .f ps b => .f ps b.bare
 | .s k _ ns l b => .s k 0 ns l.bare b.bare
 | .blk l => .blk l.bare
/-- 15.1: how many statements and expressions. -/
def X.count : X → Int
 | .nil => 0
 | .cons h t => h.count + t.count
 | .e _ _ _ _ _ l fv => 1 + l.count + fv.count
 | .f _ b => b.count
 | .s _ _ _ l b => 1 + l.count + b.count
 | .blk l => l.count
theorem X.bare_len : ∀ x : X, x.bare.len = x.len
 | .cons _ t => by show t.bare.len + 1 = t.len + 1; rw [X.bare_len t]
 | .nil => rfl
 | .e .. => rfl
 | .f .. => rfl
 | .s .. => rfl
 | .blk _ => rfl
theorem X.bare_snoc : ∀ x y : X, (x.snoc y).bare = x.bare.snoc y.bare
 | .cons h t, y => by show X.cons h.bare (t.snoc y).bare = X.cons h.bare (t.bare.snoc y.bare); rw [X.bare_snoc t y]
 | .nil, _ => rfl
 | .e .., _ => rfl
 | .f .., _ => rfl
 | .s .., _ => rfl
 | .blk _, _ => rfl
theorem X.bare_bare (x : X) : x.bare.bare = x.bare := by
 induction x with
 | nil => rfl
 | cons h t a b => show X.cons h.bare.bare t.bare.bare = _; rw [a, b]; rfl
 | e k a n sv op l fv u v => show X.e k 0 n sv op l.bare.bare fv.bare.bare = _; rw [u, v]; rfl
 | f ps b u => show X.f ps b.bare.bare = _; rw [u]; rfl
 | s k a ns l b u v => show X.s k 0 ns l.bare.bare b.bare.bare = _; rw [u, v]; rfl
 | blk l u => show X.blk l.bare.bare = _; rw [u]; rfl
theorem X.bare_kind (x : X) : x.bare.kind = x.kind := by cases x <;> rfl
theorem X.count_snoc : ∀ x y : X, x.isRow → (x.snoc y).count = x.count + y.count
 | .cons h t, y, k => by show h.count + (t.snoc y).count = h.count + t.count + y.count; rw [X.count_snoc t y k]; omega
 | .nil, y, _ => by show y.count + 0 = 0 + y.count; omega
 | .e .., _, k => k.elim
 | .f .., _, k => k.elim
 | .s .., _, k => k.elim
 | .blk _, _, k => k.elim
/-- All rows within a tree have at most n elements, all texts at most n bytes. -/
def X.fit (n : Nat) : X → Prop
 | .nil => True
 | .cons h t => h.fit n ∧ t.fit n ∧ t.len + 1 ≤ n
 | .e _ _ _ sv _ l fv => (l.fit n ∧ fv.fit n) ∧ sv.size ≤ n
 | .f ps b => (ps.length ≤ n ∧ b.fit n) ∧ ∀ p ∈ ps, p.size ≤ n
 | .s _ _ ns l b => (ns.length ≤ n ∧ l.fit n ∧ b.fit n) ∧ ∀ p ∈ ns, p.size ≤ n
 | .blk l => l.fit n
theorem X.fit_snoc {n : Nat} : ∀ x y : X, x.fit n → y.fit n → x.len + 1 ≤ n → (x.snoc y).fit n
 | .cons h t, y, a, b, k => by
  have kk : t.len + 1 + 1 ≤ n := k
  exact ⟨a.1, X.fit_snoc t y a.2.1 b (by omega), by rw [X.len_snoc]; exact kk⟩
 | .nil, y, a, b, k => ⟨b, trivial, k⟩
 | .e .., y, a, b, k => ⟨b, trivial, by show 0 + 1 ≤ n; simp [X.len] at k; omega⟩
 | .f .., y, a, b, k => ⟨b, trivial, by show 0 + 1 ≤ n; simp [X.len] at k; omega⟩
 | .s .., y, a, b, k => ⟨b, trivial, by show 0 + 1 ≤ n; simp [X.len] at k; omega⟩
 | .blk _, y, a, b, k => ⟨b, trivial, by show 0 + 1 ≤ n; simp [X.len] at k; omega⟩
theorem X.fit_bare {n : Nat} (x : X) (h : x.fit n) : x.bare.fit n := by
 induction x with
 | nil => trivial
 | cons a t u v => exact ⟨u h.1, v h.2.1, by rw [X.bare_len]; exact h.2.2⟩
 | e k a m sv op l fv u v => exact ⟨⟨u h.1.1, v h.1.2⟩, h.2⟩
 | f ps b u => exact ⟨⟨h.1.1, u h.1.2⟩, h.2⟩
 | s k a ns l b u v => exact ⟨⟨h.1.1, u h.1.2.1, v h.1.2.2⟩, h.2⟩
 | blk l u => exact u h
theorem X.fit_one {n : Nat} {x : X} (h : x.fit n) (hn : 1 ≤ n) : (X.one x).fit n := ⟨h, trivial, hn⟩
theorem X.fit_two {n : Nat} {x y : X} (h : x.fit n) (k : y.fit n) (hn : 2 ≤ n) : (X.two x y).fit n := ⟨h, ⟨k, trivial, by show 0 + 1 ≤ n; omega⟩, hn⟩
theorem X.fit_len {n : Nat} : ∀ x : X, x.fit n → x.len ≤ n
 | .nil, _ => Nat.zero_le _
 | .cons _ _, h => h.2.2
 | .e .., _ => Nat.zero_le _
 | .f .., _ => Nat.zero_le _
 | .s .., _ => Nat.zero_le _
 | .blk _, _ => Nat.zero_le _
end Go.Proofs.Yteakhlnnepjhpaa.PrM
/- The document's parser, plain: places turn nothing but places. No program is named. -/
set_option linter.unusedVariables false
set_option linter.unusedSimpArgs false
namespace Go.Proofs.Yteakhlnnepjhpaa.PrM
/-- Tokens without places; a state's place put aside; an answer's places put aside. -/
def erT (T : List LxM.T) : List LxM.T := T.map fun t => { t with at_ := 0 }
def er (st : St) : St := ⟨st.i, st.code, 0⟩
def ER (r : X × St) : X × St := (r.1.bare, er r.2)
theorem len_er (T : List LxM.T) : (erT T).length = T.length := List.length_map ..
theorem tk_er (T : List LxM.T) (st : St) : tk (erT T) (er st) = { tk T st with at_ := 0 } := by
 unfold tk erT er
 simp only [List.getD_eq_getElem?_getD, List.getElem?_map]
 cases T[st.i]? <;> rfl
section
variable (T : List LxM.T)
theorem place_er (st : St) : place (erT T) (er st) = 0 := by unfold place; rw [tk_er]; rfl
theorem code_er (st : St) : (er st).code = st.code := rfl
theorem is_er (x : ByteArray) (st : St) : is (erT T) x (er st) = is T x st := by unfold is; rw [tk_er]; rfl
theorem up_er (st : St) : up (er st) = er (up st) := rfl
theorem fail_er (c : Int) (st : St) : fail (erT T) c (er st) = er (fail T c st) := by
 unfold fail; rw [place_er]; show (if st.code = 0 then _ else _) = _
 split <;> rfl
theorem opt_er (x : ByteArray) (st : St) : opt (erT T) x (er st) = er (opt T x st) := by unfold opt; rw [is_er]; split <;> rfl
theorem take_er (x : ByteArray) (st : St) : take (erT T) x (er st) = er (take T x st) := by
 unfold take; rw [is_er]; split
 ·rfl
 ·exact fail_er T 14 st
theorem nameT_er (st : St) : nameT (erT T) (er st) = nameT T st := by unfold nameT; rw [tk_er]; rfl
theorem nameS_er (st : St) : nameS (erT T) (er st) = er (nameS T st) := by
 unfold nameS; rw [tk_er, fail_er, up_er]
 show (if st.code = 0 then if (tk T st).kind = 2 then _ else _ else _) = _
 split
 ·split <;> rfl
 ·rfl
theorem deep_er (d : Int) (st : St) : deep (erT T) d (er st) = er (deep T d st) := by unfold deep; rw [fail_er]; split <;> rfl
theorem full_er (n m : Int) (st : St) : full (erT T) n m (er st) = er (full T n m st) := by unfold full; rw [fail_er]; split <;> rfl
theorem ends_er (st : St) : ends (erT T) (er st) = ends T st := by unfold ends; rw [tk_er, is_er, is_er, is_er, is_er]; rfl
theorem pick_er (st : St) (l : List (ByteArray × Int)) : pick (erT T) (er st) l = pick T st l := by unfold pick; congr 2; funext o; exact is_er T o.1 st
theorem unK_er (st : St) : unK (erT T) (er st) = unK T st := by unfold unK; rw [is_er, is_er, is_er]
theorem e_er (r : X × St) : ER r = (r.1.bare, er r.2) := rfl
theorem two_er (a b : X) : (X.two a b).bare = X.two a.bare b.bare := rfl
theorem one_er (a : X) : (X.one a).bare = X.one a.bare := rfl
/-- The functions over tokens without places answer as over those with places, but for places. -/
structure Er (g g0 : Fs) : Prop where
 exp : ∀ d st, g0.exp d (er st) = ER (g.exp d st)
 level : ∀ n d st, g0.level n d (er st) = ER (g.level n d st)
 join : ∀ d st, g0.join d (er st) = ER (g.join d st)
 unary : ∀ d st, g0.unary d (er st) = ER (g.unary d st)
 post : ∀ d st, g0.post d (er st) = ER (g.post d st)
 behind : ∀ x d st, g0.behind x.bare d (er st) = ER (g.behind x d st)
 table : ∀ a d st, g0.table 0 d (er st) = ER (g.table a d st)
 body : ∀ d st, g0.body d (er st) = ER (g.body d st)
 block : ∀ d st, g0.block d (er st) = ER (g.block d st)
 stat : ∀ a d st, g0.stat (.s 0 0 [] .nil .nil) d (er st) = ER (g.stat (.s 0 a [] .nil .nil) d st)
theorem levelL_er {nx nx0 : St → X × St} (h : ∀ st, nx0 (er st) = ER (nx st)) (n : Nat) : ∀ (k : Nat) (a : X) (st : St), levelL (erT T) nx0 n k a.bare (er st) = ER (levelL T nx n k a st)
 | 0, a, st => rfl
 | k + 1, a, st => by
  unfold levelL
  rw [pick_er]
  cases pick T st (ops n) with
  | none => rfl
  | some c =>
   dsimp only
   rw [place_er, up_er, h]
   exact levelL_er h n k (.e (kindOf n) (place T st) 0 ⟨#[]⟩ c (X.two a (nx (up st)).1) .nil) (nx (up st)).2
theorem argsL_er {ex ex0 : St → X × St} (h : ∀ st, ex0 (er st) = ER (ex st)) : ∀ (k : Nat) (l : X) (st : St), argsL (erT T) ex0 k l.bare (er st) = ER (argsL T ex k l st)
 | 0, l, st => rfl
 | k + 1, l, st => by
  unfold argsL
  rw [code_er, X.bare_len, full_er, h]
  split
  ·dsimp only [ER]
   rw [is_er]
   split
   ·rw [← X.bare_snoc, up_er]
    exact argsL_er h k _ _
   ·rw [← X.bare_snoc]
  ·rfl
theorem behindL_er {ex ex0 : St → X × St} (h : ∀ st, ex0 (er st) = ER (ex st)) (N : Nat) : ∀ (k : Nat) (e : X) (st : St), behindL (erT T) ex0 N k e.bare (er st) = ER (behindL T ex N k e st)
 | 0, e, st => rfl
 | k + 1, e, st => by
  unfold behindL
  rw [code_er, is_er, is_er, is_er, up_er, is_er]
  split
  ·split
   ·rw [place_er, place_er, nameT_er, nameS_er]
    exact behindL_er h N k (.e 9 (place T st) 0 ⟨#[]⟩ 0 (X.two e (.e 5 (place T (up st)) 0 (nameT T (up st)) 0 .nil .nil)) .nil) _
   ·split
    ·rw [place_er, h]
     dsimp only [ER]
     rw [take_er]
     exact behindL_er h N k (.e 9 (place T st) 0 ⟨#[]⟩ 0 (X.two e (ex (up st)).1) .nil) _
    ·split
     ·split
      ·rw [place_er, up_er]
       exact behindL_er h N k (.e 10 (place T st) 0 ⟨#[]⟩ 0 (X.one e) .nil) _
      ·rw [place_er, ← one_er, argsL_er T h]
       dsimp only [ER]
       rw [take_er]
       exact behindL_er h N k (.e 10 (place T st) 0 ⟨#[]⟩ 0 (argsL T ex N (X.one e) (up st)).1 .nil) _
     ·rfl
  ·rfl
theorem tableL_er {ex ex0 : St → X × St} (h : ∀ st, ex0 (er st) = ER (ex st)) : ∀ (k : Nat) (l : X) (n : Int) (st : St), tableL (erT T) ex0 k l.bare n (er st) = ER (tableL T ex k l n st)
 | 0, l, n, st => rfl
 | k + 1, l, n, st => by
  unfold tableL
  rw [code_er, is_er, X.bare_len, full_er]
  split
  ·generalize full T (((l.len / 2 : Nat)) : Int) 64 st = s1
   have hk : (if (er s1).code ≠ 0 then ((.e 0 (place (erT T) (er s1)) 0 ⟨#[]⟩ 1 .nil .nil : X), n, er s1)
     else if is (erT T) ⟨#[91]⟩ (er s1) then ((ex0 (up (er s1))).1, n, take (erT T) ⟨#[61]⟩ (take (erT T) ⟨#[93]⟩ (ex0 (up (er s1))).2))
     else if (tk (erT T) (er s1)).kind = 2 ∧ (tk (erT T) (up (er s1))).kind = 5 ∧ (tk (erT T) (up (er s1))).text = [61] then (.e 5 (place (erT T) (er s1)) 0 (nameT (erT T) (er s1)) 1 .nil .nil, n, take (erT T) ⟨#[61]⟩ (nameS (erT T) (er s1)))
     else (.e 4 (place (erT T) (er s1)) (n + 1) ⟨#[]⟩ 1 .nil .nil, n + 1, er s1)) = (fun r : X × Int × St => (r.1.bare, r.2.1, er r.2.2)) (if s1.code ≠ 0 then ((.e 0 (place T s1) 0 ⟨#[]⟩ 1 .nil .nil : X), n, s1)
     else if is T ⟨#[91]⟩ s1 then ((ex (up s1)).1, n, take T ⟨#[61]⟩ (take T ⟨#[93]⟩ (ex (up s1)).2))
     else if (tk T s1).kind = 2 ∧ (tk T (up s1)).kind = 5 ∧ (tk T (up s1)).text = [61] then (.e 5 (place T s1) 0 (nameT T s1) 1 .nil .nil, n, take T ⟨#[61]⟩ (nameS T s1))
     else (.e 4 (place T s1) (n + 1) ⟨#[]⟩ 1 .nil .nil, n + 1, s1)) := by
    rw [place_er, is_er, nameT_er, nameS_er, take_er, up_er, h, tk_er, tk_er]
    dsimp only [ER]
    rw [take_er, take_er, code_er]
    split
    ·rfl
    ·split
     ·rfl
     ·split <;> rfl
   dsimp only
   rw [hk]
   generalize (if s1.code ≠ 0 then ((.e 0 (place T s1) 0 ⟨#[]⟩ 1 .nil .nil : X), n, s1)
     else if is T ⟨#[91]⟩ s1 then ((ex (up s1)).1, n, take T ⟨#[61]⟩ (take T ⟨#[93]⟩ (ex (up s1)).2))
     else if (tk T s1).kind = 2 ∧ (tk T (up s1)).kind = 5 ∧ (tk T (up s1)).text = [61] then (.e 5 (place T s1) 0 (nameT T s1) 1 .nil .nil, n, take T ⟨#[61]⟩ (nameS T s1))
     else (.e 4 (place T s1) (n + 1) ⟨#[]⟩ 1 .nil .nil, n + 1, s1)) = r
   simp only [h, e_er, is_er, up_er, ← X.bare_snoc]
   split
   ·exact tableL_er h k _ _ _
   ·split
    ·exact tableL_er h k _ _ _
    ·rfl
  ·rfl
theorem paramsL_er : ∀ (k : Nat) (ps : List ByteArray) (st : St), paramsL (erT T) k ps (er st) = (fun r : List ByteArray × St => (r.1, er r.2)) (paramsL T k ps st)
 | 0, ps, st => rfl
 | k + 1, ps, st => by
  unfold paramsL
  rw [code_er, full_er]
  split
  ·dsimp only
   rw [nameS_er, is_er, nameT_er, up_er]
   split
   ·exact paramsL_er k _ _
   ·rfl
  ·rfl
theorem blockL_er {g g0 : Fs} (h : Er g g0) (d : Int) : ∀ (k : Nat) (l : X) (st : St), blockL (erT T) g0 d k l.bare (er st) = ER (blockL T g d k l st)
 | 0, l, st => rfl
 | k + 1, l, st => by
  unfold blockL
  rw [ends_er, is_er, place_er, up_er, ends_er, is_er, h.exp, h.stat (place T st) d st]
  split
  ·rfl
  ·split
   ·have hr : (if ends T (up st) = false ∧ is T ⟨#[59]⟩ (up st) = false then (X.one (ER (g.exp d (up st))).1, (ER (g.exp d (up st))).2) else (X.nil, er (up st))) = ER (if ends T (up st) = false ∧ is T ⟨#[59]⟩ (up st) = false then (X.one (g.exp d (up st)).1, (g.exp d (up st)).2) else (X.nil, up st)) := by
     split <;> rfl
    rw [hr]
    generalize (if ends T (up st) = false ∧ is T ⟨#[59]⟩ (up st) = false then (X.one (g.exp d (up st)).1, (g.exp d (up st)).2) else (X.nil, up st)) = r
    dsimp only [ER]
    rw [opt_er, ends_er, fail_er, X.bare_snoc]
    congr 1
    split <;> rfl
   ·dsimp only [ER]
    rw [opt_er, ← X.bare_snoc]
    exact blockL_er h d k _ _
theorem ifL_er {g g0 : Fs} (h : Er g g0) (d : Int) : ∀ (k : Nat) (l b : X) (st : St), ifL (erT T) g0 d k l.bare b.bare (er st) = (fun r : X × X × St => (r.1.bare, r.2.1.bare, er r.2.2)) (ifL T g d k l b st)
 | 0, l, b, st => rfl
 | k + 1, l, b, st => by
  have hb : ∀ q : X, b.bare.snoc (.blk q.bare) = (b.snoc (.blk q)).bare := fun q => (X.bare_snoc b (.blk q)).symm
  unfold ifL
  simp only [h.exp, e_er, take_er, h.block, hb, is_er, up_er, ← X.bare_snoc]
  split
  ·exact ifL_er h d k _ _ _
  ·rfl
theorem unaryS_er {g g0 : Fs} (h : Er g g0) (d : Int) (st : St) : unaryS (erT T) g0 d (er st) = ER (unaryS T g d st) := by
 unfold unaryS
 simp only [unK_er, h.post, place_er, up_er, deep_er, code_er, h.unary, e_er]
 split
 ·rfl
 ·split <;> rfl
theorem joinS_er {g g0 : Fs} (h : Er g g0) (d : Int) (st : St) : joinS (erT T) g0 d (er st) = ER (joinS T g d st) := by
 unfold joinS
 simp only [h.level, e_er, is_er, place_er, up_er, deep_er, code_er, h.join]
 split
 ·split <;> rfl
 ·rfl
theorem levelS_er {g g0 : Fs} (h : Er g g0) (n : Nat) (d : Int) (st : St) : levelS (erT T) g0 n d (er st) = ER (levelS T g n d st) := by
 unfold levelS
 rw [code_er, h.join, h.unary, len_er, h.level]
 split
 ·rfl
 ·split
  ·rfl
  ·split
   ·rfl
   ·exact levelL_er T (h.level (n + 1) d) n T.length _ _
theorem postS_er {g g0 : Fs} (h : Er g g0) (d : Int) (st : St) : postS (erT T) g0 d (er st) = ER (postS T g d st) := by
 unfold postS
 simp only [up_er]
 simp only [code_er]
 simp only [is_er]
 simp only [tk_er]
 simp only [place_er]
 simp only [fail_er]
 by_cases c0 : st.code ≠ 0
 ·rw [if_pos c0, if_pos c0]
  rfl
 rw [if_neg c0, if_neg c0]
 by_cases c1 : (tk T st).kind = 2
 ·rw [if_pos c1, if_pos c1]
  exact h.behind (.e 6 (place T st) 0 ⟨(tk T st).text.toArray⟩ 0 .nil .nil) d (up st)
 rw [if_neg c1, if_neg c1]
 by_cases c2 : is T ⟨#[40]⟩ st
 ·rw [if_pos c2, if_pos c2]
  rw [h.exp]
  show g0.behind (g.exp d (up st)).1.bare d (take (erT T) ⟨#[41]⟩ (er (g.exp d (up st)).2)) = _
  rw [take_er]
  exact h.behind _ d _
 rw [if_neg c2, if_neg c2]
 by_cases c3 : (tk T st).kind = 3
 ·rw [if_pos c3, if_pos c3]
  rfl
 rw [if_neg c3, if_neg c3]
 by_cases c4 : (tk T st).kind = 4
 ·rw [if_pos c4, if_pos c4]
  rfl
 rw [if_neg c4, if_neg c4]
 by_cases c5 : is T ⟨#[110, 105, 108]⟩ st = true
 ·rw [if_pos c5, if_pos c5]
  rfl
 rw [if_neg c5, if_neg c5]
 by_cases c6 : is T ⟨#[116, 114, 117, 101]⟩ st = true
 ·rw [if_pos c6, if_pos c6]
  rfl
 rw [if_neg c6, if_neg c6]
 by_cases c7 : is T ⟨#[102, 97, 108, 115, 101]⟩ st = true
 ·rw [if_pos c7, if_pos c7]
  rfl
 rw [if_neg c7, if_neg c7]
 by_cases c8 : is T ⟨#[102, 117, 110, 99, 116, 105, 111, 110]⟩ st = true
 ·rw [if_pos c8, if_pos c8]
  rw [h.body]; rfl
 rw [if_neg c8, if_neg c8]
 by_cases c9 : is T ⟨#[123]⟩ st = true
 ·rw [if_pos c9, if_pos c9]
  exact h.table (place T st) d (up st)
 rw [if_neg c9, if_neg c9]
 rfl
theorem bodyS_er {g g0 : Fs} (h : Er g g0) (d : Int) (st : St) : bodyS (erT T) g0 d (er st) = ER (bodyS T g d st) := by
 unfold bodyS
 have hp : (if is (erT T) ⟨#[41]⟩ (take (erT T) ⟨#[40]⟩ (er st)) then (([] : List ByteArray), up (take (erT T) ⟨#[40]⟩ (er st))) else (fun r : List ByteArray × St => (r.1, take (erT T) ⟨#[41]⟩ r.2)) (paramsL (erT T) (erT T).length [] (take (erT T) ⟨#[40]⟩ (er st)))) = (fun r : List ByteArray × St => (r.1, er r.2)) (if is T ⟨#[41]⟩ (take T ⟨#[40]⟩ st) then (([] : List ByteArray), up (take T ⟨#[40]⟩ st)) else (fun r : List ByteArray × St => (r.1, take T ⟨#[41]⟩ r.2)) (paramsL T T.length [] (take T ⟨#[40]⟩ st))) := by
  simp only [take_er, is_er, up_er, len_er, paramsL_er]
  split <;> rfl
 dsimp only at hp ⊢
 rw [hp]
 generalize (if is T ⟨#[41]⟩ (take T ⟨#[40]⟩ st) then (([] : List ByteArray), up (take T ⟨#[40]⟩ st)) else ((paramsL T T.length [] (take T ⟨#[40]⟩ st)).1, take T ⟨#[41]⟩ (paramsL T T.length [] (take T ⟨#[40]⟩ st)).2)) = p
 simp only [h.block, e_er, take_er]
 rfl
theorem statS_er {g g0 : Fs} (h : Er g g0) (d : Int) (a : Int) (st : St) : statS (erT T) g0 d 0 (er st) = ER (statS T g d a st) := by
 have hb : ∀ (a : Int) (x : ByteArray) st1, g0.behind (.e 6 0 0 x 0 .nil .nil) d (er st1) = ER (g.behind (.e 6 a 0 x 0 .nil .nil) d st1) := fun a x st1 => h.behind (.e 6 a 0 x 0 .nil .nil) d st1
 have hs : ∀ b q : X, b.bare.snoc (.blk q.bare) = (b.snoc (.blk q)).bare := fun b q => (X.bare_snoc b (.blk q)).symm
 have hi : ∀ st1, ifL (erT T) g0 d T.length .nil .nil (er st1) = (fun r : X × X × St => (r.1.bare, r.2.1.bare, er r.2.2)) (ifL T g d T.length .nil .nil st1) := fun st1 => ifL_er T h d T.length .nil .nil st1
 unfold statS
 simp only [up_er]
 simp only [is_er]
 by_cases c0 : is T ⟨#[108, 111, 99, 97, 108]⟩ st = true
 ·rw [if_pos c0, if_pos c0]
  by_cases c1 : is T ⟨#[102, 117, 110, 99, 116, 105, 111, 110]⟩ (up st) = true
  ·rw [if_pos c1, if_pos c1]
   simp only [nameT_er, nameS_er, place_er, h.body, e_er]
   rfl
  ·rw [if_neg c1, if_neg c1]
   simp only [nameT_er, nameS_er, place_er, h.exp, e_er, is_er, up_er]
   split <;> rfl
 rw [if_neg c0, if_neg c0]
 by_cases c1 : is T ⟨#[105, 102]⟩ st = true
 ·rw [if_pos c1, if_pos c1]
  simp only [len_er, hi, is_er, up_er, h.block, e_er, take_er, hs]
  split <;> rfl
 rw [if_neg c1, if_neg c1]
 by_cases c2 : is T ⟨#[119, 104, 105, 108, 101]⟩ st = true
 ·rw [if_pos c2, if_pos c2]
  simp only [h.exp, h.block, e_er, take_er]
  rfl
 rw [if_neg c2, if_neg c2]
 by_cases c3 : is T ⟨#[114, 101, 112, 101, 97, 116]⟩ st = true
 ·rw [if_pos c3, if_pos c3]
  simp only [h.exp, h.block, e_er, take_er]
  rfl
 rw [if_neg c3, if_neg c3]
 by_cases c4 : is T ⟨#[102, 111, 114]⟩ st = true
 ·rw [if_pos c4, if_pos c4]
  have hh : ∀ st1, (if is (erT T) ⟨#[44]⟩ (er st1) then ((7 : Int), [nameT T (up st), nameT T (up st1)], X.one (g.exp d (take T ⟨#[105, 110]⟩ (nameS T (up st1)))).1.bare, er (g.exp d (take T ⟨#[105, 110]⟩ (nameS T (up st1)))).2) else
    if is (erT T) ⟨#[44]⟩ (er (g.exp d (take T ⟨#[44]⟩ (g.exp d (take T ⟨#[61]⟩ st1)).2)).2) then ((6 : Int), [nameT T (up st)], ((X.one (g.exp d (take T ⟨#[61]⟩ st1)).1.bare).snoc (g.exp d (take T ⟨#[44]⟩ (g.exp d (take T ⟨#[61]⟩ st1)).2)).1.bare).snoc (g.exp d (up (g.exp d (take T ⟨#[44]⟩ (g.exp d (take T ⟨#[61]⟩ st1)).2)).2)).1.bare, er (g.exp d (up (g.exp d (take T ⟨#[44]⟩ (g.exp d (take T ⟨#[61]⟩ st1)).2)).2)).2)
    else ((6 : Int), [nameT T (up st)], (X.one (g.exp d (take T ⟨#[61]⟩ st1)).1.bare).snoc (g.exp d (take T ⟨#[44]⟩ (g.exp d (take T ⟨#[61]⟩ st1)).2)).1.bare, er (g.exp d (take T ⟨#[44]⟩ (g.exp d (take T ⟨#[61]⟩ st1)).2)).2)) = (fun r : Int × List ByteArray × X × St => (r.1, r.2.1, r.2.2.1.bare, er r.2.2.2)) (if is T ⟨#[44]⟩ st1 then ((7 : Int), [nameT T (up st), nameT T (up st1)], X.one (g.exp d (take T ⟨#[105, 110]⟩ (nameS T (up st1)))).1, (g.exp d (take T ⟨#[105, 110]⟩ (nameS T (up st1)))).2) else
    if is T ⟨#[44]⟩ (g.exp d (take T ⟨#[44]⟩ (g.exp d (take T ⟨#[61]⟩ st1)).2)).2 then ((6 : Int), [nameT T (up st)], ((X.one (g.exp d (take T ⟨#[61]⟩ st1)).1).snoc (g.exp d (take T ⟨#[44]⟩ (g.exp d (take T ⟨#[61]⟩ st1)).2)).1).snoc (g.exp d (up (g.exp d (take T ⟨#[44]⟩ (g.exp d (take T ⟨#[61]⟩ st1)).2)).2)).1, (g.exp d (up (g.exp d (take T ⟨#[44]⟩ (g.exp d (take T ⟨#[61]⟩ st1)).2)).2)).2)
    else ((6 : Int), [nameT T (up st)], (X.one (g.exp d (take T ⟨#[61]⟩ st1)).1).snoc (g.exp d (take T ⟨#[44]⟩ (g.exp d (take T ⟨#[61]⟩ st1)).2)).1, (g.exp d (take T ⟨#[44]⟩ (g.exp d (take T ⟨#[61]⟩ st1)).2)).2)) := fun st1 => by
   rw [is_er, is_er]
   split
   ·rfl
   ·split <;> rfl
  simp only [nameT_er, nameS_er, up_er, take_er, h.exp, e_er]
  rw [hh]
  generalize (if is T ⟨#[44]⟩ (nameS T (up st)) then ((7 : Int), [nameT T (up st), nameT T (up (nameS T (up st)))], X.one (g.exp d (take T ⟨#[105, 110]⟩ (nameS T (up (nameS T (up st)))))).1, (g.exp d (take T ⟨#[105, 110]⟩ (nameS T (up (nameS T (up st)))))).2) else _) = q
  simp only [h.block, e_er, take_er]
  rfl
 rw [if_neg c4, if_neg c4]
 by_cases c5 : is T ⟨#[98, 114, 101, 97, 107]⟩ st = true
 ·rw [if_pos c5, if_pos c5]
  rfl
 rw [if_neg c5, if_neg c5]
 by_cases c6 : is T ⟨#[100, 111]⟩ st = true
 ·rw [if_pos c6, if_pos c6]
  simp only [h.block, e_er, take_er]
  rfl
 rw [if_neg c6, if_neg c6]
 rw [nameT_er, nameS_er, place_er, hb (place T st)]
 simp only [e_er, is_er, X.bare_kind]
 generalize g.behind (.e 6 (place T st) 0 (nameT T st) 0 .nil .nil) d (nameS T st) = r
 split
 ·rfl
 ·have hf : (if r.1.kind = 10 then fail (erT T) 14 (er r.2) else er r.2) = er (if r.1.kind = 10 then fail T 14 r.2 else r.2) := by
   rw [fail_er]; split <;> rfl
  rw [hf, take_er, h.exp]
  rfl
theorem fs_er : ∀ F, Er (fs T F) (fs (erT T) F)
 | 0 => ⟨fun _ _ => rfl, fun _ _ _ => rfl, fun _ _ => rfl, fun _ _ => rfl, fun _ _ => rfl, fun _ _ _ => rfl, fun _ _ _ => rfl, fun _ _ => rfl, fun _ _ => rfl, fun _ _ _ => rfl⟩
 | F + 1 => by
  have h := fs_er F
  exact {
   exp := fun d st => by show (fs (erT T) F).level 0 (d + 1) (deep (erT T) (d + 1) (er st)) = _; rw [deep_er]; exact h.level 0 _ _
   level := fun n d st => levelS_er T h n d st
   join := fun d st => joinS_er T h d st
   unary := fun d st => unaryS_er T h d st
   post := fun d st => postS_er T h d st
   behind := fun x d st => by
    show behindL (erT T) ((fs (erT T) F).exp d) (erT T).length (erT T).length x.bare (er st) = _
    rw [len_er]; exact behindL_er T (h.exp d) T.length T.length x st
   table := fun a d st => by
    show (fun r : X × St => ((.e 8 0 0 ⟨#[]⟩ 0 r.1 .nil : X), take (erT T) ⟨#[125]⟩ r.2)) (tableL (erT T) ((fs (erT T) F).exp d) (erT T).length (X.bare .nil) 0 (er st)) = _
    rw [len_er, tableL_er T (h.exp d)]
    simp only [e_er, take_er]
    rfl
   body := fun d st => bodyS_er T h d st
   block := fun d st => by
    show blockL (erT T) (fs (erT T) F) (d + 1) (erT T).length (X.bare .nil) (deep (erT T) (d + 1) (er st)) = _
    rw [len_er, deep_er]; exact blockL_er T h (d + 1) T.length .nil _
   stat := fun a d st => statS_er T h d a st }
theorem script_er : script (erT T) = ER (script T) := by
 unfold script
 have h := (fs_er T 12000).block 0 ⟨0, 0, 0⟩
 have e : er ⟨0, 0, 0⟩ = ⟨0, 0, 0⟩ := rfl
 rw [e] at h
 rw [h]
 generalize (fs T 12000).block 0 ⟨0, 0, 0⟩ = r
 simp only [e_er, tk_er, fail_er, code_er]
 congr 1
 split <;> rfl
/-- Two lists of tokens that differ in places alone: the same statements but for places, the same errors. -/
theorem script_bare {T' : List LxM.T} (h : erT T = erT T') : (script T).1.bare = (script T').1.bare ∧ (script T).2.code = (script T').2.code := by
 have a := script_er T
 have b := script_er T'
 rw [h, b] at a
 unfold ER at a
 injection a with a1 a2
 unfold er at a2
 injection a2 with a3 a4 a5
 exact ⟨a1.symm, a4.symm⟩
end
end Go.Proofs.Yteakhlnnepjhpaa.PrM
/- The document's parser, plain: how long the rows of its trees may be; where the first statement stands; tokens that are moved. No program is named. -/
set_option linter.unusedVariables false
set_option linter.unusedSimpArgs false
namespace Go.Proofs.Yteakhlnnepjhpaa.PrM
structure Ft (n : Nat) (g : Fs) : Prop where
 exp : ∀ d st, (g.exp d st).1.fit n
 level : ∀ k d st, (g.level k d st).1.fit n
 join : ∀ d st, (g.join d st).1.fit n
 unary : ∀ d st, (g.unary d st).1.fit n
 post : ∀ d st, (g.post d st).1.fit n
 behind : ∀ x d st, x.fit n → (g.behind x d st).1.fit n
 table : ∀ a d st, (g.table a d st).1.fit n
 body : ∀ d st, (g.body d st).1.fit n
 block : ∀ d st, (g.block d st).1.fit n
 stat : ∀ a d st, (g.stat (.s 0 a [] .nil .nil) d st).1.fit n
def Tx (n : Nat) (T : List LxM.T) : Prop := ∀ t ∈ T, t.text.length ≤ n
section
variable (T : List LxM.T)
theorem tk_text {n : Nat} (h : Tx n T) (st : St) : (tk T st).text.length ≤ n := by
 unfold tk
 rw [List.getD_eq_getElem?_getD]
 cases e : T[st.i]? with
 | none => exact Nat.zero_le _
 | some t => exact h t (List.mem_of_getElem? e)
theorem text_size {n : Nat} {l : List UInt8} (h : l.length ≤ n) : (⟨l.toArray⟩ : ByteArray).size ≤ n := by
 show l.toArray.size ≤ n
 simpa using h
theorem nameT_text {n : Nat} (h : Tx n T) (st : St) : (nameT T st).size ≤ n := by
 unfold nameT
 split
 ·exact text_size (tk_text T h st)
 ·exact Nat.zero_le _
theorem one_text {n : Nat} {x : ByteArray} (h : x.size ≤ n) : ∀ p ∈ [x], p.size ≤ n := fun p hp => by
 simp at hp
 subst hp
 exact h
theorem two_text {n : Nat} {x y : ByteArray} (h : x.size ≤ n) (k : y.size ≤ n) : ∀ p ∈ [x, y], p.size ≤ n := fun p hp => by
 simp at hp
 rcases hp with rfl | rfl
 ·exact h
 ·exact k
theorem levelL_fit {n : Nat} (h2 : 2 ≤ n) {nx : St → X × St} (h : ∀ st, (nx st).1.fit n) (q : Nat) : ∀ (k : Nat) (a : X) (st : St), a.fit n → (levelL T nx q k a st).1.fit n
 | 0, a, st, ha => ha
 | k + 1, a, st, ha => by
  unfold levelL
  cases pick T st (ops q) with
  | none => exact ha
  | some c => exact levelL_fit h2 h q k _ _ ⟨⟨X.fit_two ha (h _) h2, trivial⟩, Nat.zero_le _⟩
theorem argsL_fit {n : Nat} {ex : St → X × St} (h : ∀ st, (ex st).1.fit n) : ∀ (k : Nat) (l : X) (st : St), l.fit n → l.len + k ≤ n → (argsL T ex k l st).1.fit n
 | 0, l, st, hl, _ => hl
 | k + 1, l, st, hl, hn => by
  unfold argsL
  split
  ·dsimp only
   have hs := X.fit_snoc l _ hl (h (full T ((l.len : Int) - 1) 16 st)) (by omega)
   split
   ·exact argsL_fit h k _ _ hs (by rw [X.len_snoc]; omega)
   ·exact hs
  ·exact hl
theorem behindL_fit {n N : Nat} (hT : Tx n T) (hN : N + 2 ≤ n) {ex : St → X × St} (h : ∀ st, (ex st).1.fit n) : ∀ (k : Nat) (e : X) (st : St), e.fit n → (behindL T ex N k e st).1.fit n
 | 0, e, st, he => he
 | k + 1, e, st, he => by
  unfold behindL
  split
  ·split
   ·exact behindL_fit hT hN h k _ _ ⟨⟨X.fit_two he ⟨⟨trivial, trivial⟩, nameT_text T hT _⟩ (by omega), trivial⟩, Nat.zero_le _⟩
   ·split
    ·exact behindL_fit hT hN h k _ _ ⟨⟨X.fit_two he (h _) (by omega), trivial⟩, Nat.zero_le _⟩
    ·split
     ·split
      ·exact behindL_fit hT hN h k _ _ ⟨⟨X.fit_one he (by omega), trivial⟩, Nat.zero_le _⟩
      ·dsimp only
       exact behindL_fit hT hN h k _ _ ⟨⟨argsL_fit T h N _ _ (X.fit_one he (by omega)) (by rw [X.len_one]; omega), trivial⟩, Nat.zero_le _⟩
     ·exact he
  ·exact he
theorem tableL_fit {n : Nat} (hT : Tx n T) {ex : St → X × St} (h : ∀ st, (ex st).1.fit n) : ∀ (k : Nat) (l : X) (m : Int) (st : St), l.fit n → l.len + 2 * k ≤ n → (tableL T ex k l m st).1.fit n
 | 0, l, m, st, hl, _ => hl
 | k + 1, l, m, st, hl, hn => by
  unfold tableL
  split
  ·generalize full T (((l.len / 2 : Nat)) : Int) 64 st = s1
   have hk : (if s1.code ≠ 0 then ((.e 0 (place T s1) 0 ⟨#[]⟩ 1 .nil .nil : X), m, s1)
     else if is T ⟨#[91]⟩ s1 then ((ex (up s1)).1, m, take T ⟨#[61]⟩ (take T ⟨#[93]⟩ (ex (up s1)).2))
     else if (tk T s1).kind = 2 ∧ (tk T (up s1)).kind = 5 ∧ (tk T (up s1)).text = [61] then (.e 5 (place T s1) 0 (nameT T s1) 1 .nil .nil, m, take T ⟨#[61]⟩ (nameS T s1))
     else (.e 4 (place T s1) (m + 1) ⟨#[]⟩ 1 .nil .nil, m + 1, s1)).1.fit n := by
    split
    ·exact ⟨⟨trivial, trivial⟩, Nat.zero_le _⟩
    ·split
     ·exact h _
     ·split
      ·exact ⟨⟨trivial, trivial⟩, nameT_text T hT _⟩
      ·exact ⟨⟨trivial, trivial⟩, Nat.zero_le _⟩
   dsimp only
   generalize (if s1.code ≠ 0 then ((.e 0 (place T s1) 0 ⟨#[]⟩ 1 .nil .nil : X), m, s1)
     else if is T ⟨#[91]⟩ s1 then ((ex (up s1)).1, m, take T ⟨#[61]⟩ (take T ⟨#[93]⟩ (ex (up s1)).2))
     else if (tk T s1).kind = 2 ∧ (tk T (up s1)).kind = 5 ∧ (tk T (up s1)).text = [61] then (.e 5 (place T s1) 0 (nameT T s1) 1 .nil .nil, m, take T ⟨#[61]⟩ (nameS T s1))
     else (.e 4 (place T s1) (m + 1) ⟨#[]⟩ 1 .nil .nil, m + 1, s1)) = r at hk ⊢
   have h1 := X.fit_snoc l _ hl hk (by omega)
   have h2 := X.fit_snoc (l.snoc r.1) _ h1 (h r.2.2) (by rw [X.len_snoc]; omega)
   split
   ·exact tableL_fit hT h k _ _ _ h2 (by rw [X.len_snoc, X.len_snoc]; omega)
   ·split
    ·exact tableL_fit hT h k _ _ _ h2 (by rw [X.len_snoc, X.len_snoc]; omega)
    ·exact h2
  ·exact hl
theorem paramsL_len : ∀ (k : Nat) (ps : List ByteArray) (st : St), (paramsL T k ps st).1.length ≤ ps.length + k
 | 0, ps, st => Nat.le_refl _
 | k + 1, ps, st => by
  unfold paramsL
  split
  ·dsimp only
   split
   ·have := paramsL_len k (ps ++ [nameT T (full T (ps.length : Int) 16 st)]) (up (nameS T (full T (ps.length : Int) 16 st)))
    rw [List.length_append] at this
    simp at this
    omega
   ·simp
  ·exact Nat.le_add_right _ _
theorem paramsL_text {n : Nat} (hT : Tx n T) : ∀ (k : Nat) (ps : List ByteArray) (st : St), (∀ p ∈ ps, p.size ≤ n) → ∀ p ∈ (paramsL T k ps st).1, p.size ≤ n
 | 0, ps, st, h => h
 | k + 1, ps, st, h => by
  unfold paramsL
  have hx : ∀ s : St, ∀ p ∈ ps ++ [nameT T s], p.size ≤ n := fun s p hp => by
   rcases List.mem_append.1 hp with q | q
   ·exact h p q
   ·exact one_text (nameT_text T hT s) p q
  split
  ·dsimp only
   split
   ·exact paramsL_text hT k _ _ (hx _)
   ·exact hx _
  ·exact h
theorem blockL_fit {n : Nat} {g : Fs} (h : Ft n g) (h1 : 1 ≤ n) (d : Int) : ∀ (k : Nat) (l : X) (st : St), l.fit n → l.len + k ≤ n → (blockL T g d k l st).1.fit n
 | 0, l, st, hl, _ => hl
 | k + 1, l, st, hl, hn => by
  unfold blockL
  split
  ·exact hl
  ·split
   ·dsimp only
    refine X.fit_snoc l _ hl ⟨⟨Nat.zero_le _, ?_, trivial⟩, fun p hp => by cases hp⟩ (by omega)
    split
    ·exact X.fit_one (h.exp _ _) h1
    ·exact trivial
   ·dsimp only
    exact blockL_fit h h1 d k _ _ (X.fit_snoc l _ hl (h.stat _ _ _) (by omega)) (by rw [X.len_snoc]; omega)
theorem ifL_fit {n : Nat} {g : Fs} (h : Ft n g) (d : Int) : ∀ (k : Nat) (l b : X) (st : St), l.fit n → b.fit n → l.len + k ≤ n → b.len + k + 1 ≤ n → (ifL T g d k l b st).1.fit n ∧ (ifL T g d k l b st).2.1.fit n ∧ (ifL T g d k l b st).2.1.len + 1 ≤ n
 | 0, l, b, st, hl, hb, h1, h2 => ⟨hl, hb, by show b.len + 1 ≤ n; omega⟩
 | k + 1, l, b, st, hl, hb, h1, h2 => by
  unfold ifL
  dsimp only
  have a := X.fit_snoc l _ hl (h.exp d st) (by omega)
  have c := X.fit_snoc b (.blk (g.block d (take T ⟨#[116, 104, 101, 110]⟩ (g.exp d st).2)).1) hb (h.block d _) (by omega)
  split
  ·exact ifL_fit h d k _ _ _ a c (by rw [X.len_snoc]; omega) (by rw [X.len_snoc]; omega)
  ·exact ⟨a, c, by rw [X.len_snoc]; omega⟩
theorem statS_fit {n : Nat} {g : Fs} (h : Ft n g) (hT : Tx n T) (hN : T.length + 3 ≤ n) (d a : Int) (st : St) : (statS T g d a st).1.fit n := by
 have n1 : ∀ x : ByteArray, [x].length ≤ n := fun x => by show 1 ≤ n; omega
 have n0 : ∀ p ∈ ([] : List ByteArray), p.size ≤ n := fun p hp => by cases hp
 have nt : ∀ s : St, ∀ p ∈ [nameT T s], p.size ≤ n := fun s => one_text (nameT_text T hT s)
 unfold statS
 split
 ·split
  ·exact ⟨⟨n1 _, X.fit_one ⟨⟨trivial, X.fit_one (h.body _ _) (by omega)⟩, Nat.zero_le _⟩ (by omega), trivial⟩, nt _⟩
  ·dsimp only
   split
   ·exact ⟨⟨n1 _, X.fit_one (h.exp _ _) (by omega), trivial⟩, nt _⟩
   ·exact ⟨⟨n1 _, trivial, trivial⟩, nt _⟩
 split
 ·have hi := ifL_fit T h d T.length .nil .nil (up st) trivial trivial (by show 0 + _ ≤ n; omega) (by show 0 + _ + 1 ≤ n; omega)
  dsimp only
  generalize ifL T g d T.length .nil .nil (up st) = r at hi ⊢
  split
  ·exact ⟨⟨Nat.zero_le _, hi.1, X.fit_snoc _ _ hi.2.1 (h.block _ _) hi.2.2⟩, n0⟩
  ·exact ⟨⟨Nat.zero_le _, hi.1, hi.2.1⟩, n0⟩
 split
 ·exact ⟨⟨Nat.zero_le _, X.fit_one (h.exp _ _) (by omega), X.fit_one (h.block _ _) (by omega)⟩, n0⟩
 split
 ·exact ⟨⟨Nat.zero_le _, X.fit_one (h.exp _ _) (by omega), X.fit_one (h.block _ _) (by omega)⟩, n0⟩
 split
 ·dsimp only
  refine ⟨⟨?_, ?_, X.fit_one (h.block _ _) (by omega)⟩, ?_⟩
  ·split
   ·show 2 ≤ n; omega
   ·split
    ·exact n1 _
    ·exact n1 _
  ·split
   ·exact X.fit_one (h.exp _ _) (by omega)
   ·split
    ·refine X.fit_snoc _ _ (X.fit_snoc _ _ (X.fit_one (h.exp _ _) (by omega)) (h.exp _ _) ?_) (h.exp _ _) ?_
     ·rw [X.len_one]; omega
     ·rw [X.len_snoc, X.len_one]; omega
    ·refine X.fit_snoc _ _ (X.fit_one (h.exp _ _) (by omega)) (h.exp _ _) ?_
     rw [X.len_one]; omega
  ·split
   ·exact two_text (nameT_text T hT _) (nameT_text T hT _)
   ·split
    ·exact nt _
    ·exact nt _
 split
 ·exact ⟨⟨Nat.zero_le _, trivial, trivial⟩, n0⟩
 split
 ·exact ⟨⟨Nat.zero_le _, trivial, X.fit_one (h.block _ _) (by omega)⟩, n0⟩
 ·have hb := h.behind (.e 6 (place T st) 0 (nameT T st) 0 .nil .nil) d (nameS T st) ⟨⟨trivial, trivial⟩, nameT_text T hT _⟩
  generalize g.behind (.e 6 (place T st) 0 (nameT T st) 0 .nil .nil) d (nameS T st) = r at hb ⊢
  dsimp only
  split
  ·exact ⟨⟨Nat.zero_le _, X.fit_one hb (by omega), trivial⟩, n0⟩
  ·exact ⟨⟨Nat.zero_le _, X.fit_two hb (h.exp _ _) (by omega), trivial⟩, n0⟩
theorem fs_fit {n : Nat} (hT : Tx n T) (hN : 2 * T.length + 4 ≤ n) : ∀ F, Ft n (fs T F)
 | 0 => ⟨fun _ _ => ⟨⟨trivial, trivial⟩, Nat.zero_le _⟩, fun _ _ _ => ⟨⟨trivial, trivial⟩, Nat.zero_le _⟩, fun _ _ => ⟨⟨trivial, trivial⟩, Nat.zero_le _⟩, fun _ _ => ⟨⟨trivial, trivial⟩, Nat.zero_le _⟩, fun _ _ => ⟨⟨trivial, trivial⟩, Nat.zero_le _⟩, fun _ _ _ h => h, fun _ _ _ => ⟨⟨trivial, trivial⟩, Nat.zero_le _⟩, fun _ _ => ⟨⟨Nat.zero_le _, trivial⟩, fun p hp => by cases hp⟩, fun _ _ => trivial, fun _ _ _ => ⟨⟨Nat.zero_le _, trivial, trivial⟩, fun p hp => by cases hp⟩⟩
 | F + 1 => by
  have h := fs_fit hT hN F
  exact {
   exp := fun d st => h.level 0 _ _
   level := fun k d st => by
    show (levelS T (fs T F) k d st).1.fit n
    unfold levelS
    split
    ·exact ⟨⟨trivial, trivial⟩, Nat.zero_le _⟩
    ·split
     ·exact h.join _ _
     ·split
      ·exact h.unary _ _
      ·exact levelL_fit T (by omega) (h.level (k + 1) d) k T.length _ _ (h.level _ _ _)
   join := fun d st => by
    show (joinS T (fs T F) d st).1.fit n
    unfold joinS
    dsimp only
    split
    ·split
     ·exact h.level _ _ _
     ·exact ⟨⟨X.fit_two (h.level _ _ _) (h.join _ _) (by omega), trivial⟩, Nat.zero_le _⟩
    ·exact h.level _ _ _
   unary := fun d st => by
    show (unaryS T (fs T F) d st).1.fit n
    unfold unaryS
    split
    ·exact h.post _ _
    ·dsimp only
     split
     ·exact ⟨⟨trivial, trivial⟩, Nat.zero_le _⟩
     ·exact ⟨⟨X.fit_one (h.unary _ _) (by omega), trivial⟩, Nat.zero_le _⟩
   post := fun d st => by
    show (postS T (fs T F) d st).1.fit n
    unfold postS
    split
    ·exact ⟨⟨trivial, trivial⟩, Nat.zero_le _⟩
    split
    ·exact h.behind _ _ _ ⟨⟨trivial, trivial⟩, text_size (tk_text T hT st)⟩
    split
    ·exact h.behind _ _ _ (h.exp _ _)
    split
    ·exact ⟨⟨trivial, trivial⟩, Nat.zero_le _⟩
    split
    ·exact ⟨⟨trivial, trivial⟩, text_size (tk_text T hT st)⟩
    split
    ·exact ⟨⟨trivial, trivial⟩, Nat.zero_le _⟩
    split
    ·exact ⟨⟨trivial, trivial⟩, Nat.zero_le _⟩
    split
    ·exact ⟨⟨trivial, trivial⟩, Nat.zero_le _⟩
    split
    ·exact ⟨⟨trivial, X.fit_one (h.body _ _) (by omega)⟩, Nat.zero_le _⟩
    split
    ·exact h.table _ _ _
    ·exact ⟨⟨trivial, trivial⟩, Nat.zero_le _⟩
   behind := fun x d st hx => behindL_fit T hT (by omega) (h.exp d) T.length x st hx
   table := fun a d st => ⟨⟨tableL_fit T hT (h.exp d) T.length .nil 0 st trivial (by show 0 + _ ≤ n; omega), trivial⟩, Nat.zero_le _⟩
   body := fun d st => by
    show (bodyS T (fs T F) d st).1.fit n
    unfold bodyS
    dsimp only
    refine ⟨⟨?_, h.block _ _⟩, ?_⟩
    rotate_left
    ·split
     ·exact fun p hp => by cases hp
     ·exact paramsL_text T hT T.length [] _ (fun p hp => by cases hp)
    split
    ·exact Nat.zero_le _
    ·have := paramsL_len T T.length [] (take T ⟨#[40]⟩ st)
     simp at this
     show (paramsL T T.length [] (take T ⟨#[40]⟩ st)).1.length ≤ n
     omega
   block := fun d st => blockL_fit T h (by omega) (d + 1) T.length .nil _ trivial (by show 0 + _ ≤ n; omega)
   stat := fun a d st => statS_fit T h hT (by omega) d a st }
theorem script_fit {n : Nat} (hT : Tx n T) (hN : 2 * T.length + 4 ≤ n) : (script T).1.fit n := (fs_fit T hT hN 12000).block 0 ⟨0, 0, 0⟩
/-- The place of a row's first statement. -/
def X.first : X → Int
 | .cons (.s _ a _ _ _) _ => a
 | _ => 0
theorem blockL_first (g : Fs) (d : Int) : ∀ (k : Nat) (x t : X) (st : St), ∃ t', (blockL T g d k (.cons x t) st).1 = .cons x t'
 | 0, x, t, st => ⟨t, rfl⟩
 | k + 1, x, t, st => by
  unfold blockL
  split
  ·exact ⟨t, rfl⟩
  ·split
   ·exact ⟨_, rfl⟩
   ·exact blockL_first g d k x _ _
theorem statS_at (g : Fs) (d a : Int) (st : St) : ∃ k ns l b, (statS T g d a st).1 = .s k a ns l b := by
 unfold statS
 by_cases c0 : is T ⟨#[108, 111, 99, 97, 108]⟩ st = true
 ·rw [if_pos c0]
  by_cases q : is T ⟨#[102, 117, 110, 99, 116, 105, 111, 110]⟩ (up st) = true
  ·rw [if_pos q]; exact ⟨_, _, _, _, rfl⟩
  ·rw [if_neg q]; dsimp only; split <;> exact ⟨_, _, _, _, rfl⟩
 rw [if_neg c0]
 by_cases c1 : is T ⟨#[105, 102]⟩ st = true
 ·rw [if_pos c1]
  dsimp only
  split <;> exact ⟨_, _, _, _, rfl⟩
 rw [if_neg c1]
 by_cases c2 : is T ⟨#[119, 104, 105, 108, 101]⟩ st = true
 ·rw [if_pos c2]
  exact ⟨_, _, _, _, rfl⟩
 rw [if_neg c2]
 by_cases c3 : is T ⟨#[114, 101, 112, 101, 97, 116]⟩ st = true
 ·rw [if_pos c3]
  exact ⟨_, _, _, _, rfl⟩
 rw [if_neg c3]
 by_cases c4 : is T ⟨#[102, 111, 114]⟩ st = true
 ·rw [if_pos c4]
  exact ⟨_, _, _, _, rfl⟩
 rw [if_neg c4]
 by_cases c5 : is T ⟨#[98, 114, 101, 97, 107]⟩ st = true
 ·rw [if_pos c5]
  exact ⟨_, _, _, _, rfl⟩
 rw [if_neg c5]
 by_cases c6 : is T ⟨#[100, 111]⟩ st = true
 ·rw [if_pos c6]
  exact ⟨_, _, _, _, rfl⟩
 rw [if_neg c6]
 dsimp only
 split <;> exact ⟨_, _, _, _, rfl⟩
theorem block_first (F : Nat) (st : St) (d : Int) (hd : d < 100) : ((fs T (F + 2)).block d st).1 = .nil ∨ ∃ x t, ((fs T (F + 2)).block d st).1 = .cons x t ∧ (X.cons x t).first = place T st := by
 show (blockL T (fs T (F + 1)) (d + 1) T.length .nil (deep T (d + 1) st)).1 = .nil ∨ ∃ x t, (blockL T (fs T (F + 1)) (d + 1) T.length .nil (deep T (d + 1) st)).1 = .cons x t ∧ _
 have e : deep T (d + 1) st = st := by unfold deep; rw [if_neg (by omega)]
 rw [e]
 cases T.length with
 | zero => exact .inl rfl
 | succ k =>
  unfold blockL
  split
  ·exact .inl rfl
  ·split
   ·exact .inr ⟨_, _, rfl, rfl⟩
   ·dsimp only
    obtain ⟨q, ns, l, b, hs⟩ := statS_at T (fs T F) (d + 1) (place T st) st
    have hs : ((fs T (F + 1)).stat (.s 0 (place T st) [] .nil .nil) (d + 1) st).1 = .s q (place T st) ns l b := hs
    rw [hs]
    obtain ⟨t, ht⟩ := blockL_first T (fs T (F + 1)) (d + 1) k (.s q (place T st) ns l b) .nil (opt T ⟨#[59]⟩ ((fs T (F + 1)).stat (.s 0 (place T st) [] .nil .nil) (d + 1) st).2)
    exact .inr ⟨_, _, ht, rfl⟩
theorem script_first : (script T).1 = .nil ∨ ∃ x t, (script T).1 = .cons x t ∧ (X.cons x t).first = place T ⟨0, 0, 0⟩ := block_first T 11998 ⟨0, 0, 0⟩ 0 (by decide)
end
/-- Tokens moved on by m. -/
def mvT (m : Nat) (l : List LxM.T) : List LxM.T := l.map fun t => { t with at_ := t.at_ + m }
theorem er_mv (m : Nat) (l : List LxM.T) : erT (mvT m l) = erT l := by unfold erT mvT; rw [List.map_map]; rfl
theorem place_mv (m : Nat) (l : List LxM.T) (h : 0 < l.length) : place (mvT m l) ⟨0, 0, 0⟩ = place l ⟨0, 0, 0⟩ + m := by
 cases l with
 | nil => exact absurd h (by simp)
 | cons a r => show ((a.at_ + m : Nat) : Int) = (a.at_ : Int) + m; omega
def mvA (m : Nat) : LxM.Ans → LxM.Ans
 | .ok l => .ok (mvT m l)
 | .bad p => .bad (p + m)
theorem mvA_pre (m : Nat) (t : LxM.T) (x : LxM.Ans) : mvA m (x.pre [t]) = (mvA m x).pre [{ t with at_ := t.at_ + m }] := by cases x <;> rfl
theorem lexT_mv (m n : Nat) : ∀ (k : Nat) (l : List UInt8), l.length ≤ k → l.length ≤ n → LxM.lexT (n + m) l = mvA m (LxM.lexT n l) := by
 intro k
 induction k with
 | zero =>
  intro l h _
  obtain rfl : l = [] := List.eq_nil_of_length_eq_zero (by omega)
  rw [LxM.lexT_nil, LxM.lexT_nil]; rfl
 | succ k ih =>
  intro l h hn
  cases l with
  | nil => rw [LxM.lexT_nil, LxM.lexT_nil]; rfl
  | cons c r =>
   cases ht : LxM.tk (c :: r) with
   | none =>
    rw [LxM.lexT_bad _ _ (by simp) ht, LxM.lexT_bad _ _ (by simp) ht]
    show LxM.Ans.bad _ = LxM.Ans.bad _
    congr 1; omega
   | some q =>
    obtain ⟨t, r1⟩ := q
    rw [LxM.lexT_ok _ _ _ _ ht, LxM.lexT_ok _ _ _ _ ht, mvA_pre]
    have hl := LxM.tk_len ht
    have hs := LxM.sk_len r1 false
    unfold LxM.lexS
    rw [ih _ (by omega) (by omega)]
    congr 3
    show n + m - (c :: r).length = n - (c :: r).length + m
    omega
theorem sk_blanks : ∀ (m : Nat) (l : List UInt8), LxM.sk false (List.replicate m 32 ++ l) = LxM.sk false l
 | 0, l => rfl
 | m + 1, l => by
  rw [List.replicate_succ, List.cons_append, LxM.sk, if_pos (by decide)]
  exact sk_blanks m l
/-- Blanks ahead move the tokens. -/
theorem lex_front (m : Nat) (l : List UInt8) : LxM.lex (List.replicate m 32 ++ l) = mvA m (LxM.lex l) := by
 unfold LxM.lex LxM.lexS
 rw [sk_blanks, List.length_append, List.length_replicate, Nat.add_comm m]
 exact lexT_mv m l.length _ _ (Nat.le_refl _) (LxM.sk_len l false)
end Go.Proofs.Yteakhlnnepjhpaa.PrM
