/- Scripts of many local names: their tokens, their trees, what package scope says of them. No program is named. -/
import Derived.Test.YtclfjkleijkekaaScTx
namespace Go.Proofs.Ytclfjkleijkekaa
open PrM
set_option linter.unusedVariables false
set_option linter.unusedSimpArgs false
namespace Mny
def wLocal : List UInt8 := [108, 111, 99, 97, 108]
def loc : List UInt8 := [108, 111, 99, 97, 108, 32, 99, 32]
def blk : List UInt8 := [100, 111, 32, 108, 111, 99, 97, 108, 32, 97, 32, 108, 111, 99, 97, 108, 32, 98, 32, 101, 110, 100, 32]
def pre : List UInt8 := [108, 111, 99, 97, 108, 32, 102, 32, 61, 32, 102, 117, 110, 99, 116, 105, 111, 110, 40, 41, 32]
def fin : List UInt8 := [101, 110, 100]
theorem lex_step (n : Nat) (c : UInt8) (r : List UInt8) (t : LxM.T) (r1 r2 : List UInt8) (h : LxM.tk (c :: r) = some (t, r1)) (h2 : LxM.sk false r1 = r2) (h3 : r2.length < (c :: r).length) (p : Nat) (hp : n - (r.length + 1) = p) :
    LxM.lexT n (c :: r) = (LxM.lexT n r2).pre [{ t with at_ := p }] := by
  rw [LxM.lexT]
  simp only [h]
  subst h2 hp
  rw [dif_pos h3]
def tkLoc (p : Nat) (c : UInt8) : List LxM.T := [⟨1, wLocal, 0, p⟩, ⟨2, [c], 0, p + 6⟩]
def tkLocs : Nat → Nat → List LxM.T
  | _, 0 => []
  | p, k + 1 => tkLoc p 99 ++ tkLocs (p + 8) k
def tkBlk (p : Nat) : List LxM.T := ⟨1, [100, 111], 0, p⟩ :: (tkLoc (p + 3) 97 ++ (tkLoc (p + 11) 98 ++ [⟨1, fin, 0, p + 19⟩]))
def tkBlks : Nat → Nat → List LxM.T
  | _, 0 => []
  | p, b + 1 => tkBlk p ++ tkBlks (p + 23) b
def locs : Nat → List UInt8 → List UInt8
  | 0, r => r
  | k + 1, r => loc ++ locs k r
def blks : Nat → List UInt8 → List UInt8
  | 0, r => r
  | k + 1, r => blk ++ blks k r
theorem locs_len (r : List UInt8) : ∀ k, (locs k r).length = 8 * k + r.length
  | 0 => by simp [locs]
  | k + 1 => by rw [locs, List.length_append, locs_len r k]; simp only [loc, List.length_cons, List.length_nil]; omega
theorem blks_len (r : List UInt8) : ∀ k, (blks k r).length = 23 * k + r.length
  | 0 => by simp [blks]
  | k + 1 => by rw [blks, List.length_append, blks_len r k]; simp only [blk, List.length_cons, List.length_nil]; omega
theorem locs_sk {r : List UInt8} (h : LxM.sk false r = r) : ∀ k, LxM.sk false (locs k r) = locs k r
  | 0 => h
  | k + 1 => rfl
theorem blks_sk {r : List UInt8} (h : LxM.sk false r = r) : ∀ k, LxM.sk false (blks k r) = blks k r
  | 0 => h
  | k + 1 => rfl
theorem pre_cons (a b : List LxM.T) (x : LxM.Ans) : LxM.Ans.pre a (LxM.Ans.pre b x) = LxM.Ans.pre (a ++ b) x := LxM.Ans.pre_pre a b x
theorem lex_loc (n : Nat) (c : UInt8) (r : List UInt8) (hc : c = 97 ∨ c = 98 ∨ c = 99) (hr : LxM.sk false r = r) (p : Nat) (hp : n = p + (8 + r.length)) :
    LxM.lexT n (wLocal ++ 32 :: c :: 32 :: r) = (LxM.lexT n r).pre (tkLoc p c) := by
  have e1 : LxM.lexT n (wLocal ++ 32 :: c :: 32 :: r) = (LxM.lexT n (c :: 32 :: r)).pre [⟨1, wLocal, 0, p⟩] := by
    refine lex_step n 108 (111 :: 99 :: 97 :: 108 :: 32 :: c :: 32 :: r) ⟨1, wLocal, 0, 0⟩ (32 :: c :: 32 :: r) (c :: 32 :: r) rfl ?_ (by simp only [List.length_cons]; omega) p (by simp only [List.length_cons]; omega)
    rcases hc with rfl | rfl | rfl <;> rfl
  have e2 : LxM.lexT n (c :: 32 :: r) = (LxM.lexT n r).pre [⟨2, [c], 0, p + 6⟩] := by
    refine lex_step n c (32 :: r) ⟨2, [c], 0, 0⟩ (32 :: r) r ?_ (show LxM.sk false r = r from hr) (by simp only [List.length_cons]; omega) (p + 6) (by simp only [List.length_cons]; omega)
    rcases hc with rfl | rfl | rfl <;> rfl
  rw [e1, e2, pre_cons]
  rfl
theorem lex_locs (n : Nat) (r : List UInt8) (hr : LxM.sk false r = r) : ∀ (k p : Nat), n = p + (8 * k + r.length) → LxM.lexT n (locs k r) = (LxM.lexT n r).pre (tkLocs p k)
  | 0, p, h => by rw [tkLocs, LxM.Ans.pre_nil]; rfl
  | k + 1, p, h => by
    have e := lex_loc n 99 (locs k r) (Or.inr (Or.inr rfl)) (locs_sk hr k) p (by rw [locs_len]; omega)
    rw [tkLocs, ← pre_cons, ← lex_locs n r hr k (p + 8) (by omega)]
    exact e
theorem lex_blk (n : Nat) (r : List UInt8) (hr : LxM.sk false r = r) (p : Nat) (hp : n = p + (23 + r.length)) : LxM.lexT n (blk ++ r) = (LxM.lexT n r).pre (tkBlk p) := by
  have e1 : LxM.lexT n (blk ++ r) = (LxM.lexT n (wLocal ++ 32 :: 97 :: 32 :: (wLocal ++ 32 :: 98 :: 32 :: 101 :: 110 :: 100 :: 32 :: r))).pre [⟨1, [100, 111], 0, p⟩] :=
    lex_step n 100 (111 :: 32 :: (wLocal ++ 32 :: 97 :: 32 :: (wLocal ++ 32 :: 98 :: 32 :: 101 :: 110 :: 100 :: 32 :: r))) ⟨1, [100, 111], 0, 0⟩ (32 :: (wLocal ++ 32 :: 97 :: 32 :: (wLocal ++ 32 :: 98 :: 32 :: 101 :: 110 :: 100 :: 32 :: r))) (wLocal ++ 32 :: 97 :: 32 :: (wLocal ++ 32 :: 98 :: 32 :: 101 :: 110 :: 100 :: 32 :: r)) rfl rfl (by simp only [List.length_cons]; omega) p (by simp only [List.length_cons, List.length_append, wLocal, List.length_nil]; omega)
  have e2 := lex_loc n 97 (wLocal ++ 32 :: 98 :: 32 :: 101 :: 110 :: 100 :: 32 :: r) (Or.inl rfl) rfl (p + 3) (by simp only [List.length_cons, List.length_append, wLocal, List.length_nil]; omega)
  have e3 := lex_loc n 98 (101 :: 110 :: 100 :: 32 :: r) (Or.inr (Or.inl rfl)) rfl (p + 11) (by simp only [List.length_cons]; omega)
  have e4 : LxM.lexT n (101 :: 110 :: 100 :: 32 :: r) = (LxM.lexT n r).pre [⟨1, fin, 0, p + 19⟩] :=
    lex_step n 101 (110 :: 100 :: 32 :: r) ⟨1, fin, 0, 0⟩ (32 :: r) r rfl (show LxM.sk false r = r from hr) (by simp only [List.length_cons]; omega) (p + 19) (by simp only [List.length_cons]; omega)
  rw [e1, e2, e3, e4, pre_cons, pre_cons, pre_cons]
  rfl
theorem lex_blks (n : Nat) (r : List UInt8) (hr : LxM.sk false r = r) : ∀ (k p : Nat), n = p + (23 * k + r.length) → LxM.lexT n (blks k r) = (LxM.lexT n r).pre (tkBlks p k)
  | 0, p, h => by rw [tkBlks, LxM.Ans.pre_nil]; rfl
  | k + 1, p, h => by
    have e := lex_blk n (blks k r) (blks_sk hr k) p (by rw [blks_len]; omega)
    rw [tkBlks, ← pre_cons, ← lex_blks n r hr k (p + 23) (by omega)]
    exact e
def tkPre : List LxM.T := [⟨1, wLocal, 0, 0⟩, ⟨2, [102], 0, 6⟩, ⟨5, [61], 0, 8⟩, ⟨1, [102, 117, 110, 99, 116, 105, 111, 110], 0, 10⟩, ⟨5, [40], 0, 18⟩, ⟨5, [41], 0, 19⟩]
theorem lex_pre (n : Nat) (r : List UInt8) (hr : LxM.sk false r = r) (hp : n = 21 + r.length) : LxM.lexT n (pre ++ r) = (LxM.lexT n r).pre tkPre := by
  have e1 : LxM.lexT n (pre ++ r) = _ := lex_step n 108 (111 :: 99 :: 97 :: 108 :: 32 :: 102 :: 32 :: 61 :: 32 :: 102 :: 117 :: 110 :: 99 :: 116 :: 105 :: 111 :: 110 :: 40 :: 41 :: 32 :: r) ⟨1, wLocal, 0, 0⟩ (32 :: 102 :: 32 :: 61 :: 32 :: 102 :: 117 :: 110 :: 99 :: 116 :: 105 :: 111 :: 110 :: 40 :: 41 :: 32 :: r) (102 :: 32 :: 61 :: 32 :: 102 :: 117 :: 110 :: 99 :: 116 :: 105 :: 111 :: 110 :: 40 :: 41 :: 32 :: r) rfl rfl (by simp only [List.length_cons]; omega) 0 (by simp only [List.length_cons]; omega)
  have e2 := lex_step n 102 (32 :: 61 :: 32 :: 102 :: 117 :: 110 :: 99 :: 116 :: 105 :: 111 :: 110 :: 40 :: 41 :: 32 :: r) ⟨2, [102], 0, 0⟩ (32 :: 61 :: 32 :: 102 :: 117 :: 110 :: 99 :: 116 :: 105 :: 111 :: 110 :: 40 :: 41 :: 32 :: r) (61 :: 32 :: 102 :: 117 :: 110 :: 99 :: 116 :: 105 :: 111 :: 110 :: 40 :: 41 :: 32 :: r) rfl rfl (by simp only [List.length_cons]; omega) 6 (by simp only [List.length_cons]; omega)
  have e3 := lex_step n 61 (32 :: 102 :: 117 :: 110 :: 99 :: 116 :: 105 :: 111 :: 110 :: 40 :: 41 :: 32 :: r) ⟨5, [61], 0, 0⟩ (32 :: 102 :: 117 :: 110 :: 99 :: 116 :: 105 :: 111 :: 110 :: 40 :: 41 :: 32 :: r) (102 :: 117 :: 110 :: 99 :: 116 :: 105 :: 111 :: 110 :: 40 :: 41 :: 32 :: r) rfl rfl (by simp only [List.length_cons]; omega) 8 (by simp only [List.length_cons]; omega)
  have e4 := lex_step n 102 (117 :: 110 :: 99 :: 116 :: 105 :: 111 :: 110 :: 40 :: 41 :: 32 :: r) ⟨1, [102, 117, 110, 99, 116, 105, 111, 110], 0, 0⟩ (40 :: 41 :: 32 :: r) (40 :: 41 :: 32 :: r) rfl rfl (by simp only [List.length_cons]; omega) 10 (by simp only [List.length_cons]; omega)
  have e5 := lex_step n 40 (41 :: 32 :: r) ⟨5, [40], 0, 0⟩ (41 :: 32 :: r) (41 :: 32 :: r) rfl rfl (by simp only [List.length_cons]; omega) 18 (by simp only [List.length_cons]; omega)
  have e6 := lex_step n 41 (32 :: r) ⟨5, [41], 0, 0⟩ (32 :: r) r rfl (show LxM.sk false r = r from hr) (by simp only [List.length_cons]; omega) 19 (by simp only [List.length_cons]; omega)
  rw [e1, e2, e3, e4, e5, e6, pre_cons, pre_cons, pre_cons, pre_cons, pre_cons]
  rfl
theorem lex_fin (n : Nat) (p : Nat) (hp : n = p + 3) : LxM.lexT n fin = .ok [⟨1, fin, 0, p⟩, ⟨0, [], 0, n⟩] := by
  have e := lex_step n 101 [110, 100] ⟨1, fin, 0, 0⟩ [] [] rfl rfl (by simp) p (by simp only [List.length_cons, List.length_nil]; omega)
  rw [show fin = 101 :: [110, 100] from rfl, e, LxM.lexT_nil]
  rfl

/-- The token that stands somewhere, and what is behind. -/
theorem at_drop {T : List LxM.T} {i : Nat} {t : LxM.T} {R : List LxM.T} (h : T.drop i = t :: R) (c a : Int) : PrM.tk T ⟨i, c, a⟩ = t ∧ T.drop (i + 1) = R := by
  have h0 : T[i]? = some t := by
    have := List.getElem?_drop (xs := T) (i := i) (j := 0)
    rw [h] at this
    simpa using this.symm
  refine ⟨?_, ?_⟩
  · show T.getD i _ = t
    rw [List.getD_eq_getElem?_getD, h0]
    rfl
  · rw [← List.drop_drop, h]
    rfl
def st (i : Nat) : St := ⟨i, 0, 0⟩
theorem up_st (i : Nat) : up (st i) = st (i + 1) := rfl
theorem is_tk {T : List LxM.T} {i : Nat} {t : LxM.T} (h : PrM.tk T (st i) = t) (x : ByteArray) : PrM.is T x (st i) = ((decide (t.kind = 1) || decide (t.kind = 5)) && decide (t.text = x.data.toList)) := by
  unfold PrM.is
  rw [h]
  show (decide ((0 : Int) = 0) && _) = _
  rw [decide_eq_true rfl, Bool.true_and]
theorem ends_tk {T : List LxM.T} {i : Nat} {t : LxM.T} (h : PrM.tk T (st i) = t) : PrM.ends T (st i) = (decide (t.kind = 0) || ((decide (t.kind = 1) || decide (t.kind = 5)) && (decide (t.text = [101, 110, 100]) || (decide (t.text = [101, 108, 115, 101]) || (decide (t.text = [101, 108, 115, 101, 105, 102]) || decide (t.text = [117, 110, 116, 105, 108])))))) := by
  unfold PrM.ends
  simp only [is_tk h, h]
  show (decide ((0 : Int) ≠ 0) || _) = _
  rw [decide_eq_false (fun h => h rfl), Bool.false_or]
  cases (decide (t.kind = 0)) <;> cases (decide (t.kind = 1) || decide (t.kind = 5)) <;> simp
/-- Tokens that are no sign of what goes on. -/
def Bl (t : LxM.T) : Prop := t.text ≠ [61] ∧ t.text ≠ [59]
def S1 (p : Nat) (c : UInt8) : X := .s 1 (p : Int) [⟨#[c]⟩] .nil .nil
theorem stat_loc {T : List LxM.T} (g : Fs) (d : Int) {i p : Nat} {c : UInt8} {t : LxM.T} {R : List LxM.T} (h : T.drop i = tkLoc p c ++ t :: R) (ht : Bl t) (a : Int) :
    statS T g d a (st i) = (.s 1 a [⟨#[c]⟩] .nil .nil, st (i + 2)) := by
  obtain ⟨h0, d1⟩ := at_drop h 0 0
  obtain ⟨h1, d2⟩ := at_drop d1 0 0
  obtain ⟨h2, d3⟩ := at_drop d2 0 0
  have e0 : PrM.is T ⟨#[108, 111, 99, 97, 108]⟩ (st i) = true := (is_tk h0 _).trans rfl
  have e1 : PrM.is T ⟨#[102, 117, 110, 99, 116, 105, 111, 110]⟩ (st (i + 1)) = false := (is_tk h1 _).trans rfl
  have e2 : PrM.is T ⟨#[61]⟩ (st (i + 2)) = false := (is_tk (i := i + 2) h2 _).trans (by
    have : decide (t.text = (⟨#[61]⟩ : ByteArray).data.toList) = false := decide_eq_false ht.1
    rw [this, Bool.and_false])
  have n1 : nameT T (st (i + 1)) = ⟨#[c]⟩ := by
    unfold nameT
    rw [show PrM.tk T (st (i + 1)) = _ from h1]
    rw [if_pos ⟨rfl, rfl⟩]
  have n2 : nameS T (st (i + 1)) = st (i + 2) := by
    unfold nameS
    rw [show PrM.tk T (st (i + 1)) = _ from h1, if_pos rfl, if_pos (show (st (i + 1)).code = 0 from rfl)]
    rfl
  unfold statS
  rw [if_pos e0, up_st, if_neg (by rw [e1]; exact Bool.false_ne_true)]
  dsimp only
  rw [n2, if_neg (by rw [e2]; exact Bool.false_ne_true), n1]
theorem place_st {T : List LxM.T} {i : Nat} {t : LxM.T} (h : PrM.tk T (st i) = t) : place T (st i) = (t.at_ : Int) := by unfold place; rw [h]
theorem opt_no {T : List LxM.T} {i : Nat} {t : LxM.T} (h : PrM.tk T (st i) = t) (ht : Bl t) : opt T ⟨#[59]⟩ (st i) = st i := by
  unfold opt
  rw [is_tk h, if_neg]
  have : decide (t.text = (⟨#[59]⟩ : ByteArray).data.toList) = false := decide_eq_false ht.2
  rw [this, Bool.and_false]
  exact Bool.false_ne_true
/-- One statement of a block. -/
theorem block_step {T : List LxM.T} {g : Fs} {d : Int} {i : Nat} {t : LxM.T} (h : PrM.tk T (st i) = t) (he : t.kind = 1) (hx : t.text = wLocal ∨ t.text = [100, 111]) {x : X} {j : Nat} {u : LxM.T} (hg : g.stat (.s 0 (t.at_ : Int) [] .nil .nil) d (st i) = (x, st j)) (hu : PrM.tk T (st j) = u) (hb : Bl u) (k : Nat) (l : X) :
    blockL T g d (k + 1) l (st i) = blockL T g d k (l.snoc x) (st j) := by
  have e0 : PrM.ends T (st i) = false := by
    rw [ends_tk h]
    rcases hx with hx | hx <;> rw [he, hx] <;> rfl
  have e1 : PrM.is T ⟨#[114, 101, 116, 117, 114, 110]⟩ (st i) = false := by
    rw [is_tk h]
    rcases hx with hx | hx <;> rw [he, hx] <;> rfl
  rw [blockL, if_neg (by rw [e0]; exact Bool.false_ne_true), if_neg (by rw [e1]; exact Bool.false_ne_true), place_st h, hg]
  dsimp only
  rw [opt_no hu hb]
theorem block_end {T : List LxM.T} {g : Fs} {d : Int} {i : Nat} {t : LxM.T} (h : PrM.tk T (st i) = t) (he : t.kind = 0 ∨ (t.kind = 1 ∧ t.text = fin)) (k : Nat) (l : X) : blockL T g d k l (st i) = (l, st i) := by
  cases k with
  | zero => rfl
  | succ k =>
    rw [blockL, if_pos]
    rw [ends_tk h]
    rcases he with he | ⟨he, hx⟩
    · rw [he]; rfl
    · rw [he, hx]; rfl
def snocs : X → Nat → Nat → X
  | l, _, 0 => l
  | l, p, k + 1 => snocs (l.snoc (S1 p 99)) (p + 8) k
theorem head_locs (p : Nat) : ∀ (k : Nat) (t : LxM.T) (R : List LxM.T), Bl t → ∃ u Q, tkLocs p k ++ t :: R = u :: Q ∧ Bl u
  | 0, t, R, h => ⟨t, R, rfl, h⟩
  | k + 1, t, R, h => ⟨_, _, rfl, show wLocal ≠ [61] by decide, show wLocal ≠ [59] by decide⟩
theorem block_locs {T : List LxM.T} (g : Fs) (hg : ∀ s d q, g.stat s d q = statS T g d (match s with | .s _ a .. => a | _ => 0) q) (d : Int) : ∀ (k i p m : Nat) (l : X) (t : LxM.T) (R : List LxM.T), T.drop i = tkLocs p k ++ t :: R → Bl t → blockL T g d (k + m) l (st i) = blockL T g d m (snocs l p k) (st (i + 2 * k))
  | 0, i, p, m, l, t, R, h, ht => by rw [Nat.zero_add]; rfl
  | k + 1, i, p, m, l, t, R, h, ht => by
    obtain ⟨u, Q, hu, hb⟩ := head_locs (p + 8) k t R ht
    have h' : T.drop i = tkLoc p 99 ++ (tkLocs (p + 8) k ++ t :: R) := by rw [h, tkLocs, List.append_assoc]
    have h2 := h'
    rw [hu] at h2
    obtain ⟨h0, d1⟩ := at_drop h' 0 0
    obtain ⟨_, d2⟩ := at_drop d1 0 0
    have d2' := d2
    rw [hu] at d2'
    obtain ⟨h3, _⟩ := at_drop d2' 0 0
    rw [show k + 1 + m = (k + m) + 1 by omega, block_step h0 rfl (Or.inl rfl) (by rw [hg]; exact stat_loc g d h2 hb (p : Int)) h3 hb]
    rw [block_locs g hg d k (i + 2) (p + 8) m _ t R d2 ht, show i + 2 + 2 * k = i + 2 * (k + 1) by omega]
    rfl
def B1 (p : Nat) : X := .s 11 (p : Int) [] .nil (X.one (.blk (.cons (S1 (p + 3) 97) (.cons (S1 (p + 11) 98) .nil))))
def snocB : X → Nat → Nat → X
  | l, _, 0 => l
  | l, p, k + 1 => snocB (l.snoc (B1 p)) (p + 23) k
theorem stat_do {T : List LxM.T} (g g2 : Fs) (d : Int) (hg : ∀ q, g.block d q = blockL T g2 (d + 1) T.length .nil (deep T (d + 1) q)) (hd : d ≤ 90) (hg2 : ∀ s q, g2.stat s (d + 1) q = statS T g2 (d + 1) (match s with | .s _ a .. => a | _ => 0) q ∨ ∃ g3, g2.stat s (d + 1) q = statS T g3 (d + 1) (match s with | .s _ a .. => a | _ => 0) q) {i p m : Nat} (hm : T.length = m + 2) {t : LxM.T} {R : List LxM.T} (h : T.drop i = tkBlk p ++ t :: R) (a : Int) :
    statS T g d a (st i) = (.s 11 a [] .nil (X.one (.blk (.cons (S1 (p + 3) 97) (.cons (S1 (p + 11) 98) .nil)))), st (i + 6)) := by
  obtain ⟨h0, d1⟩ := at_drop h 0 0
  have k1 : T.drop (i + 1) = tkLoc (p + 3) 97 ++ ⟨1, wLocal, 0, p + 11⟩ :: ([⟨2, [98], 0, p + 17⟩] ++ (⟨1, fin, 0, p + 19⟩ :: (t :: R))) := d1
  obtain ⟨h1, d2⟩ := at_drop k1 0 0
  obtain ⟨h2, d3⟩ := at_drop d2 0 0
  have k3 : T.drop (i + 3) = tkLoc (p + 11) 98 ++ ⟨1, fin, 0, p + 19⟩ :: (t :: R) := d3
  obtain ⟨h3, d4⟩ := at_drop k3 0 0
  obtain ⟨h4, d5⟩ := at_drop d4 0 0
  obtain ⟨h5, d6⟩ := at_drop d5 0 0
  have b3 : Bl (⟨1, wLocal, 0, p + 11⟩ : LxM.T) := ⟨show wLocal ≠ [61] by decide, show wLocal ≠ [59] by decide⟩
  have b5 : Bl (⟨1, fin, 0, p + 19⟩ : LxM.T) := ⟨show fin ≠ [61] by decide, show fin ≠ [59] by decide⟩
  have s1 : g2.stat (.s 0 ((p + 3 : Nat) : Int) [] .nil .nil) (d + 1) (st (i + 1)) = (S1 (p + 3) 97, st (i + 3)) := by
    rcases hg2 (.s 0 ((p + 3 : Nat) : Int) [] .nil .nil) (st (i + 1)) with e | ⟨g3, e⟩ <;> rw [e] <;> exact stat_loc _ (d + 1) k1 b3 _
  have s2 : g2.stat (.s 0 ((p + 11 : Nat) : Int) [] .nil .nil) (d + 1) (st (i + 3)) = (S1 (p + 11) 98, st (i + 5)) := by
    rcases hg2 (.s 0 ((p + 11 : Nat) : Int) [] .nil .nil) (st (i + 3)) with e | ⟨g3, e⟩ <;> rw [e] <;> exact stat_loc _ (d + 1) k3 b5 _
  have bl : blockL T g2 (d + 1) T.length .nil (st (i + 1)) = (.cons (S1 (p + 3) 97) (.cons (S1 (p + 11) 98) .nil), st (i + 5)) := by
    rw [hm, block_step (t := ⟨1, wLocal, 0, p + 3⟩) h1 rfl (Or.inl rfl) s1 h3 b3, block_step (t := ⟨1, wLocal, 0, p + 11⟩) h3 rfl (Or.inl rfl) s2 h5 b5, block_end h5 (Or.inr ⟨rfl, rfl⟩)]
    rfl
  have f0 : PrM.is T ⟨#[108, 111, 99, 97, 108]⟩ (st i) = false := (is_tk h0 _).trans rfl
  have f1 : PrM.is T ⟨#[105, 102]⟩ (st i) = false := (is_tk h0 _).trans rfl
  have f2 : PrM.is T ⟨#[119, 104, 105, 108, 101]⟩ (st i) = false := (is_tk h0 _).trans rfl
  have f3 : PrM.is T ⟨#[114, 101, 112, 101, 97, 116]⟩ (st i) = false := (is_tk h0 _).trans rfl
  have f4 : PrM.is T ⟨#[102, 111, 114]⟩ (st i) = false := (is_tk h0 _).trans rfl
  have f5 : PrM.is T ⟨#[98, 114, 101, 97, 107]⟩ (st i) = false := (is_tk h0 _).trans rfl
  have f6 : PrM.is T ⟨#[100, 111]⟩ (st i) = true := (is_tk h0 _).trans rfl
  have f7 : take T ⟨#[101, 110, 100]⟩ (st (i + 5)) = st (i + 6) := by
    unfold take
    have f8 : PrM.is T ⟨#[101, 110, 100]⟩ (st (i + 5)) = true := (is_tk (i := i + 5) h5 _).trans rfl
    rw [if_pos f8]
    rfl
  have dp : deep T (d + 1) (st (i + 1)) = st (i + 1) := if_neg (by omega)
  unfold statS
  rw [if_neg (by rw [f0]; exact Bool.false_ne_true), if_neg (by rw [f1]; exact Bool.false_ne_true), if_neg (by rw [f2]; exact Bool.false_ne_true), if_neg (by rw [f3]; exact Bool.false_ne_true), if_neg (by rw [f4]; exact Bool.false_ne_true), if_neg (by rw [f5]; exact Bool.false_ne_true), if_pos f6, up_st, hg, dp, bl]
  dsimp only
  rw [f7]
theorem head_blks (p : Nat) : ∀ (k : Nat) (t : LxM.T) (R : List LxM.T), Bl t → ∃ u Q, tkBlks p k ++ t :: R = u :: Q ∧ Bl u
  | 0, t, R, h => ⟨t, R, rfl, h⟩
  | k + 1, t, R, h => ⟨_, _, rfl, show [100, 111] ≠ [61] by decide, show [100, 111] ≠ [59] by decide⟩
theorem block_blks {T : List LxM.T} (F : Nat) (d : Int) (hd : d ≤ 90) {M : Nat} (hM : T.length = M + 2) : ∀ (k i p m : Nat) (l : X) (t : LxM.T) (R : List LxM.T), T.drop i = tkBlks p k ++ t :: R → Bl t → blockL T (fs T (F + 4)) d (k + m) l (st i) = blockL T (fs T (F + 4)) d m (snocB l p k) (st (i + 6 * k))
  | 0, i, p, m, l, t, R, h, ht => by rw [Nat.zero_add]; rfl
  | k + 1, i, p, m, l, t, R, h, ht => by
    obtain ⟨u, Q, hu, hb⟩ := head_blks (p + 23) k t R ht
    have h' : T.drop i = tkBlk p ++ (tkBlks (p + 23) k ++ t :: R) := by rw [h, tkBlks, List.append_assoc]
    have h2 := h'
    rw [hu] at h2
    obtain ⟨h0, d1⟩ := at_drop h' 0 0
    obtain ⟨_, d2⟩ := at_drop d1 0 0
    obtain ⟨_, d3⟩ := at_drop d2 0 0
    obtain ⟨_, d4⟩ := at_drop d3 0 0
    obtain ⟨_, d5⟩ := at_drop d4 0 0
    obtain ⟨_, d6⟩ := at_drop d5 0 0
    have d7 : T.drop (i + 6) = tkBlks (p + 23) k ++ t :: R := d6
    have d7' := d7
    rw [hu] at d7'
    obtain ⟨h3, _⟩ := at_drop d7' 0 0
    have sd : (fs T (F + 4)).stat (.s 0 (p : Int) [] .nil .nil) d (st i) = (B1 p, st (i + 6)) :=
      stat_do (T := T) (fs T (F + 3)) (fs T (F + 2)) d (fun q => rfl) hd (fun s q => Or.inr ⟨fs T (F + 1), rfl⟩) hM h2 (p : Int)
    rw [show k + 1 + m = (k + m) + 1 by omega, block_step h0 rfl (Or.inr rfl) sd h3 hb]
    rw [block_blks F d hd hM k (i + 6) (p + 23) m _ t R d7 ht, show i + 6 + 6 * k = i + 6 * (k + 1) by omega]
    rfl
theorem block_locs' {T : List LxM.T} (F : Nat) (d : Int) : ∀ (k i p m : Nat) (l : X) (t : LxM.T) (R : List LxM.T), T.drop i = tkLocs p k ++ t :: R → Bl t → blockL T (fs T (F + 4)) d (k + m) l (st i) = blockL T (fs T (F + 4)) d m (snocs l p k) (st (i + 2 * k))
  | 0, i, p, m, l, t, R, h, ht => by rw [Nat.zero_add]; rfl
  | k + 1, i, p, m, l, t, R, h, ht => by
    obtain ⟨u, Q, hu, hb⟩ := head_locs (p + 8) k t R ht
    have h' : T.drop i = tkLoc p 99 ++ (tkLocs (p + 8) k ++ t :: R) := by rw [h, tkLocs, List.append_assoc]
    have h2 := h'
    rw [hu] at h2
    obtain ⟨h0, d1⟩ := at_drop h' 0 0
    obtain ⟨_, d2⟩ := at_drop d1 0 0
    have d2' := d2
    rw [hu] at d2'
    obtain ⟨h3, _⟩ := at_drop d2' 0 0
    have sl : (fs T (F + 4)).stat (.s 0 (p : Int) [] .nil .nil) d (st i) = (S1 p 99, st (i + 2)) := stat_loc (fs T (F + 3)) d h2 hb (p : Int)
    rw [show k + 1 + m = (k + m) + 1 by omega, block_step h0 rfl (Or.inl rfl) sl h3 hb]
    rw [block_locs' F d k (i + 2) (p + 8) m _ t R d2 ht, show i + 2 + 2 * k = i + 2 * (k + 1) by omega]
    rfl
theorem tkBlks_len (p : Nat) : ∀ k, (tkBlks p k).length = 6 * k
  | 0 => rfl
  | k + 1 => by rw [tkBlks, List.length_append, tkBlks_len (p + 23) k]; simp only [tkBlk, tkLoc, List.length_cons, List.length_append, List.length_nil]; omega
theorem tkLocs_len (p : Nat) : ∀ k, (tkLocs p k).length = 2 * k
  | 0 => rfl
  | k + 1 => by rw [tkLocs, List.length_append, tkLocs_len (p + 8) k]; simp only [tkLoc, List.length_cons, List.length_nil]; omega
def rows (p b q k : Nat) : X := snocs (snocB .nil p b) q k
/-- Blocks, then names, up to a token that ends. -/
theorem block_all {T : List LxM.T} (F : Nat) (d : Int) (hd : d ≤ 90) {i p b q k : Nat} {t : LxM.T} {R : List LxM.T} (hk : 1 ≤ k) (h : T.drop i = tkBlks p b ++ (tkLocs q k ++ t :: R)) (ht : Bl t) (he : t.kind = 0 ∨ (t.kind = 1 ∧ t.text = fin)) :
    blockL T (fs T (F + 4)) d T.length .nil (st i) = (rows p b q k, st (i + 6 * b + 2 * k)) ∧ PrM.tk T (st (i + 6 * b + 2 * k)) = t ∧ T.drop (i + 6 * b + 2 * k + 1) = R := by
  have hl : T.length = i + (6 * b + (2 * k + (R.length + 1))) := by
    have e := congrArg List.length h
    rw [List.length_drop, List.length_append, List.length_append, tkBlks_len, tkLocs_len, List.length_cons] at e
    omega
  obtain ⟨m, hm⟩ : ∃ m, T.length = b + (k + m) := ⟨T.length - b - k, by omega⟩
  have hM : T.length = (T.length - 2) + 2 := by omega
  obtain ⟨u, Q, hu, hb⟩ := head_locs q k t R ht
  have h1 := h
  rw [hu] at h1
  have h2 : T.drop (i + 6 * b) = tkLocs q k ++ t :: R := by
    rw [← List.drop_drop, h, List.drop_append_of_le_length (by rw [tkBlks_len]; omega), List.drop_of_length_le (by rw [tkBlks_len]; omega)]
    rfl
  have h3 : T.drop (i + 6 * b + 2 * k) = t :: R := by
    rw [← List.drop_drop, h2, List.drop_append_of_le_length (by rw [tkLocs_len]; omega), List.drop_of_length_le (by rw [tkLocs_len]; omega)]
    rfl
  obtain ⟨h4, h5⟩ := at_drop h3 0 0
  refine ⟨?_, h4, h5⟩
  have e1 := block_blks F d hd hM b i p (k + m) .nil u Q h1 hb
  have e2 := block_locs' F d k (i + 6 * b) q m (snocB .nil p b) t R h2 ht
  rw [← hm] at e1
  rw [e1, e2, block_end h4 he]
  rfl
end Mny
end Go.Proofs.Ytclfjkleijkekaa
