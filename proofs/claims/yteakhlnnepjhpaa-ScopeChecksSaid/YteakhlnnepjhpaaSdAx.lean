/- The document's parser, plain: what its trees look like (printed by genshp.py). No program is named. -/
import Derived.Test.YteakhlnnepjhpaaKj
set_option linter.unusedVariables false
set_option linter.unusedSimpArgs false
namespace Go.Proofs.Yteakhlnnepjhpaa.PrM
/-- Names, rows and blocks that a statement of a kind has. -/
def OkS (k : Int) (ns : List ByteArray) (l b : X) : Prop :=
 (k = 1 ∨ k = 12 → ns.length = 1 ∧ b = .nil) ∧ (k = 2 → 1 ≤ l.len ∧ b = .nil) ∧ (k = 4 → l.len ≤ b.len) ∧ (k = 5 ∨ k = 6 ∨ k = 7 ∨ k = 8 → b.len = 1) ∧ (k = 9 → l = .nil ∧ b = .nil)
def Shp : X → Prop
 | .nil => True
 | .cons h t => Shp h ∧ Shp t
 | .e k _ _ _ _ l f => (k = 6 → l = .nil ∧ f = .nil) ∧ Shp l ∧ Shp f
 | .f _ b => Shp b
 | .s k _ ns l b => OkS k ns l b ∧ Shp l ∧ Shp b
 | .blk l => Shp l
theorem shp_snoc : ∀ (l x : X), Shp l → Shp x → Shp (l.snoc x)
 | .nil, x, _, h => ⟨h, trivial⟩
 | .cons h t, x, k, q => ⟨k.1, shp_snoc t x k.2 q⟩
 | .e .., x, _, h => ⟨h, trivial⟩
 | .f .., x, _, h => ⟨h, trivial⟩
 | .s .., x, _, h => ⟨h, trivial⟩
 | .blk _, x, _, h => ⟨h, trivial⟩
theorem shp_one {x : X} (h : Shp x) : Shp (X.one x) := ⟨h, trivial⟩
theorem shp_two {x y : X} (h : Shp x) (k : Shp y) : Shp (X.two x y) := ⟨h, k, trivial⟩
theorem shp_leaf (k a n : Int) (s : ByteArray) (op : Int) : Shp (.e k a n s op .nil .nil) := ⟨fun _ => ⟨rfl, rfl⟩, trivial, trivial⟩
theorem shp_e {k a n op : Int} {s : ByteArray} {l f : X} (hk : k ≠ 6) (hl : Shp l) (hf : Shp f) : Shp (.e k a n s op l f) := ⟨fun h => absurd h hk, hl, hf⟩
theorem ok_any {k : Int} {ns : List ByteArray} {l b : X} (h : k ≠ 1 ∧ k ≠ 12 ∧ k ≠ 2 ∧ k ≠ 4 ∧ k ≠ 5 ∧ k ≠ 6 ∧ k ≠ 7 ∧ k ≠ 8 ∧ k ≠ 9) : OkS k ns l b :=
 ⟨fun q => by omega, fun q => by omega, fun q => by omega, fun q => by omega, fun q => by omega⟩
theorem ok_names {k : Int} {ns : List ByteArray} {l : X} (h : k = 1 ∨ k = 12) (hn : ns.length = 1) : OkS k ns l .nil :=
 ⟨fun _ => ⟨hn, rfl⟩, fun q => by omega, fun q => by omega, fun q => by omega, fun q => by omega⟩
theorem ok_loop {k : Int} {ns : List ByteArray} {l b : X} (h : k = 5 ∨ k = 6 ∨ k = 7 ∨ k = 8) (hb : b.len = 1) : OkS k ns l b :=
 ⟨fun q => by omega, fun q => by omega, fun q => by omega, fun _ => hb, fun q => by omega⟩
theorem ok_if {ns : List ByteArray} {l b : X} (h : l.len ≤ b.len) : OkS 4 ns l b :=
 ⟨fun q => by omega, fun q => by omega, fun _ => h, fun q => by omega, fun q => by omega⟩
theorem ok_set {ns : List ByteArray} {x y : X} : OkS 2 ns (X.two x y) .nil :=
 ⟨fun q => by omega, fun _ => ⟨by rw [X.len_two]; omega, rfl⟩, fun q => by omega, fun q => by omega, fun q => by omega⟩
theorem ok_break {ns : List ByteArray} : OkS 9 ns .nil .nil :=
 ⟨fun q => by omega, fun q => by omega, fun q => by omega, fun q => by omega, fun _ => ⟨rfl, rfl⟩⟩
structure Sh (g : Fs) : Prop where
 exp : ∀ d st, Shp (g.exp d st).1
 level : ∀ k d st, Shp (g.level k d st).1
 join : ∀ d st, Shp (g.join d st).1
 unary : ∀ d st, Shp (g.unary d st).1
 post : ∀ d st, Shp (g.post d st).1
 behind : ∀ x d st, Shp x → Shp (g.behind x d st).1
 table : ∀ a d st, Shp (g.table a d st).1
 body : ∀ d st, Shp (g.body d st).1
 block : ∀ d st, Shp (g.block d st).1
 stat : ∀ a d st, Shp (g.stat (.s 0 a [] .nil .nil) d st).1
section
variable (T : List LxM.T)
theorem kindOf_ne (q : Nat) : kindOf q ≠ 6 := by
 unfold kindOf
 split
 ·decide
 ·split <;> decide
theorem levelL_shp {nx : St → X × St} (h : ∀ st, Shp (nx st).1) (q : Nat) : ∀ (k : Nat) (a : X) (st : St), Shp a → Shp (levelL T nx q k a st).1
 | 0, a, st, ha => ha
 | k + 1, a, st, ha => by
  unfold levelL
  cases pick T st (ops q) with
  | none => exact ha
  | some c => exact levelL_shp h q k _ _ (shp_e (kindOf_ne q) (shp_two ha (h _)) trivial)
theorem argsL_shp {ex : St → X × St} (h : ∀ st, Shp (ex st).1) : ∀ (k : Nat) (l : X) (st : St), Shp l → Shp (argsL T ex k l st).1
 | 0, l, st, hl => hl
 | k + 1, l, st, hl => by
  unfold argsL
  split
  ·dsimp only
   have hs := shp_snoc l _ hl (h (full T ((l.len : Int) - 1) 16 st))
   split
   ·exact argsL_shp h k _ _ hs
   ·exact hs
  ·exact hl
theorem behindL_shp {N : Nat} {ex : St → X × St} (h : ∀ st, Shp (ex st).1) : ∀ (k : Nat) (e : X) (st : St), Shp e → Shp (behindL T ex N k e st).1
 | 0, e, st, he => he
 | k + 1, e, st, he => by
  unfold behindL
  split
  ·split
   ·exact behindL_shp h k _ _ (shp_e (by decide) (shp_two he (shp_leaf ..)) trivial)
   ·split
    ·exact behindL_shp h k _ _ (shp_e (by decide) (shp_two he (h _)) trivial)
    ·split
     ·split
      ·exact behindL_shp h k _ _ (shp_e (by decide) (shp_one he) trivial)
      ·dsimp only
       exact behindL_shp h k _ _ (shp_e (by decide) (argsL_shp T h N _ _ (shp_one he)) trivial)
     ·exact he
  ·exact he
theorem tableL_shp {ex : St → X × St} (h : ∀ st, Shp (ex st).1) : ∀ (k : Nat) (l : X) (m : Int) (st : St), Shp l → Shp (tableL T ex k l m st).1
 | 0, l, m, st, hl => hl
 | k + 1, l, m, st, hl => by
  unfold tableL
  split
  ·generalize full T (((l.len / 2 : Nat)) : Int) 64 st = s1
   have hk : Shp (if s1.code ≠ 0 then ((.e 0 (place T s1) 0 ⟨#[]⟩ 1 .nil .nil : X), m, s1)
     else if is T ⟨#[91]⟩ s1 then ((ex (up s1)).1, m, take T ⟨#[61]⟩ (take T ⟨#[93]⟩ (ex (up s1)).2))
     else if (tk T s1).kind = 2 ∧ (tk T (up s1)).kind = 5 ∧ (tk T (up s1)).text = [61] then (.e 5 (place T s1) 0 (nameT T s1) 1 .nil .nil, m, take T ⟨#[61]⟩ (nameS T s1))
     else (.e 4 (place T s1) (m + 1) ⟨#[]⟩ 1 .nil .nil, m + 1, s1)).1 := by
    split
    ·exact shp_leaf ..
    ·split
     ·exact h _
     ·split
      ·exact shp_leaf ..
      ·exact shp_leaf ..
   dsimp only
   generalize (if s1.code ≠ 0 then ((.e 0 (place T s1) 0 ⟨#[]⟩ 1 .nil .nil : X), m, s1)
     else if is T ⟨#[91]⟩ s1 then ((ex (up s1)).1, m, take T ⟨#[61]⟩ (take T ⟨#[93]⟩ (ex (up s1)).2))
     else if (tk T s1).kind = 2 ∧ (tk T (up s1)).kind = 5 ∧ (tk T (up s1)).text = [61] then (.e 5 (place T s1) 0 (nameT T s1) 1 .nil .nil, m, take T ⟨#[61]⟩ (nameS T s1))
     else (.e 4 (place T s1) (m + 1) ⟨#[]⟩ 1 .nil .nil, m + 1, s1)) = r at hk ⊢
   have h1 := shp_snoc l _ hl hk
   have h2 := shp_snoc (l.snoc r.1) _ h1 (h r.2.2)
   split
   ·exact tableL_shp h k _ _ _ h2
   ·split
    ·exact tableL_shp h k _ _ _ h2
    ·exact h2
  ·exact hl
theorem blockL_shp {g : Fs} (h : Sh g) (d : Int) : ∀ (k : Nat) (l : X) (st : St), Shp l → Shp (blockL T g d k l st).1
 | 0, l, st, hl => hl
 | k + 1, l, st, hl => by
  unfold blockL
  split
  ·exact hl
  ·split
   ·dsimp only
    refine shp_snoc l _ hl ⟨ok_any (by decide), ?_, trivial⟩
    split
    ·exact shp_one (h.exp _ _)
    ·exact trivial
   ·dsimp only
    exact blockL_shp h d k _ _ (shp_snoc l _ hl (h.stat _ _ _))
theorem ifL_shp {g : Fs} (h : Sh g) (d : Int) : ∀ (k : Nat) (l b : X) (st : St), Shp l → Shp b → l.len = b.len → Shp (ifL T g d k l b st).1 ∧ Shp (ifL T g d k l b st).2.1 ∧ (ifL T g d k l b st).1.len = (ifL T g d k l b st).2.1.len
 | 0, l, b, st, hl, hb, h1 => ⟨hl, hb, h1⟩
 | k + 1, l, b, st, hl, hb, h1 => by
  unfold ifL
  dsimp only
  have a := shp_snoc l _ hl (h.exp d st)
  have c := shp_snoc b (.blk (g.block d (take T ⟨#[116, 104, 101, 110]⟩ (g.exp d st).2)).1) hb (h.block d _)
  split
  ·exact ifL_shp h d k _ _ _ a c (by rw [X.len_snoc, X.len_snoc, h1])
  ·exact ⟨a, c, by rw [X.len_snoc, X.len_snoc, h1]⟩
theorem statS_shp {g : Fs} (h : Sh g) (d a : Int) (st : St) : Shp (statS T g d a st).1 := by
 unfold statS
 split
 ·split
  ·exact ⟨ok_names (Or.inr rfl) rfl, shp_one (shp_e (by decide) trivial (shp_one (h.body _ _))), trivial⟩
  ·dsimp only
   split
   ·exact ⟨ok_names (Or.inl rfl) rfl, shp_one (h.exp _ _), trivial⟩
   ·exact ⟨ok_names (Or.inl rfl) rfl, trivial, trivial⟩
 split
 ·have hi := ifL_shp T h d T.length .nil .nil (up st) trivial trivial rfl
  dsimp only
  generalize ifL T g d T.length .nil .nil (up st) = r at hi ⊢
  split
  ·exact ⟨ok_if (by rw [X.len_snoc, hi.2.2]; omega), hi.1, shp_snoc _ _ hi.2.1 (h.block _ _)⟩
  ·exact ⟨ok_if (by rw [hi.2.2]; exact Nat.le_refl _), hi.1, hi.2.1⟩
 split
 ·exact ⟨ok_loop (Or.inl rfl) rfl, shp_one (h.exp _ _), shp_one (h.block _ _)⟩
 split
 ·exact ⟨ok_loop (Or.inr (Or.inr (Or.inr rfl))) rfl, shp_one (h.exp _ _), shp_one (h.block _ _)⟩
 split
 ·dsimp only
  refine ⟨ok_loop ?_ rfl, ?_, shp_one (h.block _ _)⟩
  ·split
   ·exact Or.inr (Or.inr (Or.inl rfl))
   ·split
    ·exact Or.inr (Or.inl rfl)
    ·exact Or.inr (Or.inl rfl)
  ·split
   ·exact shp_one (h.exp _ _)
   ·split
    ·exact shp_snoc _ _ (shp_snoc _ _ (shp_one (h.exp _ _)) (h.exp _ _)) (h.exp _ _)
    ·exact shp_snoc _ _ (shp_one (h.exp _ _)) (h.exp _ _)
 split
 ·exact ⟨ok_break, trivial, trivial⟩
 split
 ·exact ⟨ok_any (by decide), trivial, shp_one (h.block _ _)⟩
 ·have hb := h.behind (.e 6 (place T st) 0 (nameT T st) 0 .nil .nil) d (nameS T st) (shp_leaf ..)
  generalize g.behind (.e 6 (place T st) 0 (nameT T st) 0 .nil .nil) d (nameS T st) = r at hb ⊢
  dsimp only
  split
  ·exact ⟨ok_any (by decide), shp_one hb, trivial⟩
  ·exact ⟨ok_set, shp_two hb (h.exp _ _), trivial⟩
theorem fs_shp : ∀ F, Sh (fs T F)
 | 0 => ⟨fun _ _ => shp_leaf .., fun _ _ _ => shp_leaf .., fun _ _ => shp_leaf .., fun _ _ => shp_leaf .., fun _ _ => shp_leaf .., fun _ _ _ h => h, fun _ _ _ => shp_leaf .., fun _ _ => trivial, fun _ _ => trivial, fun _ _ _ => ⟨ok_any (by decide), trivial, trivial⟩⟩
 | F + 1 => by
  have h := fs_shp F
  exact {
   exp := fun d st => h.level 0 _ _
   level := fun k d st => by
    show Shp (levelS T (fs T F) k d st).1
    unfold levelS
    split
    ·exact shp_leaf ..
    ·split
     ·exact h.join _ _
     ·split
      ·exact h.unary _ _
      ·exact levelL_shp T (h.level (k + 1) d) k T.length _ _ (h.level _ _ _)
   join := fun d st => by
    show Shp (joinS T (fs T F) d st).1
    unfold joinS
    dsimp only
    split
    ·split
     ·exact h.level _ _ _
     ·exact shp_e (by decide) (shp_two (h.level _ _ _) (h.join _ _)) trivial
    ·exact h.level _ _ _
   unary := fun d st => by
    show Shp (unaryS T (fs T F) d st).1
    unfold unaryS
    split
    ·exact h.post _ _
    ·dsimp only
     split
     ·exact shp_leaf ..
     ·refine shp_e ?_ (shp_one (h.unary _ _)) trivial
      unfold unK
      split
      ·decide
      ·split
       ·decide
       ·split <;> decide
   post := fun d st => by
    show Shp (postS T (fs T F) d st).1
    unfold postS
    split
    ·exact shp_leaf ..
    split
    ·exact h.behind _ _ _ (shp_leaf ..)
    split
    ·exact h.behind _ _ _ (h.exp _ _)
    split
    ·exact shp_leaf ..
    split
    ·exact shp_leaf ..
    split
    ·exact shp_leaf ..
    split
    ·exact shp_leaf ..
    split
    ·exact shp_leaf ..
    split
    ·exact shp_e (by decide) trivial (shp_one (h.body _ _))
    split
    ·exact h.table _ _ _
    ·exact shp_leaf ..
   behind := fun x d st hx => behindL_shp T (h.exp d) T.length x st hx
   table := fun a d st => shp_e (by decide) (tableL_shp T (h.exp d) T.length .nil 0 st trivial) trivial
   body := fun d st => by
    show Shp (bodyS T (fs T F) d st).1
    unfold bodyS
    dsimp only
    exact h.block _ _
   block := fun d st => blockL_shp T h (d + 1) T.length .nil _ trivial
   stat := fun a d st => statS_shp T h d a st }
theorem script_shp : Shp (script T).1 := (fs_shp T 12000).block 0 ⟨0, 0, 0⟩
end
end Go.Proofs.Yteakhlnnepjhpaa.PrM
