/- Scripts of many local names: the trees whole, what package scope says of them. No program is named. -/
import Derived.Test.YtclfjkleijkekaaScYx
namespace Go.Proofs.Ytclfjkleijkekaa
open PrM
set_option linter.unusedVariables false
set_option linter.unusedSimpArgs false
namespace Mny
theorem is_no {T : List LxM.T} {i : Nat} {t : LxM.T} (h : PrM.tk T (st i) = t) (ht : t.kind = 0) (x : ByteArray) : PrM.is T x (st i) = false := by
  rw [is_tk h, ht]; rfl
theorem level_up {T : List LxM.T} (F n : Nat) (d : Int) (hn : n ≠ 3) (hn2 : n ≠ 6) {i j : Nat} {x : X} {t : LxM.T} (h : (fs T F).level (n + 1) d (st i) = (x, st j)) (hj : PrM.tk T (st j) = t) (ht : t.kind = 0) : (fs T (F + 1)).level n d (st i) = (x, st j) := by
  show levelS T (fs T F) n d (st i) = _
  unfold levelS
  rw [if_neg (show ¬ (st i).code ≠ 0 from fun k => k rfl), if_neg hn, if_neg hn2, h]
  have pk : pick T (st j) (ops n) = none := by
    unfold pick
    rw [List.find?_eq_none.2 (fun o _ => by rw [is_no hj ht]; exact Bool.false_ne_true)]
    rfl
  dsimp only
  cases T.length with
  | zero => rfl
  | succ k => rw [levelL, pk]
theorem exp_fun {T : List LxM.T} (F : Nat) (d : Int) (hd : d ≤ 80) {i p b q k a e n u v : Nat} (hk : 1 ≤ k) (h : T.drop i = ⟨1, [102, 117, 110, 99, 116, 105, 111, 110], 0, a⟩ :: ⟨5, [40], 0, e⟩ :: ⟨5, [41], 0, n⟩ :: (tkBlks p b ++ (tkLocs q k ++ [⟨1, fin, 0, u⟩, ⟨0, [], 0, v⟩]))) :
    (fs T (F + 17)).exp d (st i) = (.e 7 (a : Int) 0 ⟨#[]⟩ 0 .nil (X.one (.f [] (rows p b q k))), st (i + 3 + 6 * b + 2 * k + 1)) ∧ PrM.tk T (st (i + 3 + 6 * b + 2 * k + 1)) = ⟨0, [], 0, v⟩ := by
  obtain ⟨h0, d1⟩ := at_drop h 0 0
  obtain ⟨h1, d2⟩ := at_drop d1 0 0
  obtain ⟨h2, d3⟩ := at_drop d2 0 0
  have bf : Bl (⟨1, fin, 0, u⟩ : LxM.T) := ⟨show fin ≠ [61] by decide, show fin ≠ [59] by decide⟩
  obtain ⟨ba, h3, d4⟩ := block_all (T := T) F (d + 1 + 1) (by omega) hk (show T.drop (i + 3) = tkBlks p b ++ (tkLocs q k ++ ⟨1, fin, 0, u⟩ :: [⟨0, [], 0, v⟩]) from d3) bf (Or.inr ⟨rfl, rfl⟩)
  obtain ⟨h4, _⟩ := at_drop d4 0 0
  have g0 : PrM.is T ⟨#[40]⟩ (st (i + 1)) = true := (is_tk (i := i + 1) h1 _).trans rfl
  have g1 : PrM.is T ⟨#[41]⟩ (st (i + 2)) = true := (is_tk (i := i + 2) h2 _).trans rfl
  have g2 : PrM.is T ⟨#[101, 110, 100]⟩ (st (i + 3 + 6 * b + 2 * k)) = true := (is_tk h3 _).trans rfl
  have g3 : take T ⟨#[40]⟩ (st (i + 1)) = st (i + 2) := by unfold take; rw [if_pos g0]; rfl
  have g4 : take T ⟨#[101, 110, 100]⟩ (st (i + 3 + 6 * b + 2 * k)) = st (i + 3 + 6 * b + 2 * k + 1) := by unfold take; rw [if_pos g2]; rfl
  have bb : (fs T (F + 5)).block (d + 1) (st (i + 3)) = (rows p b q k, st (i + 3 + 6 * b + 2 * k)) := by
    show blockL T (fs T (F + 4)) (d + 1 + 1) T.length .nil (deep T (d + 1 + 1) (st (i + 3))) = _
    rw [show deep T (d + 1 + 1) (st (i + 3)) = st (i + 3) from if_neg (by omega), ba]
  have bd : (fs T (F + 6)).body (d + 1) (st (i + 1)) = (.f [] (rows p b q k), st (i + 3 + 6 * b + 2 * k + 1)) := by
    show bodyS T (fs T (F + 5)) (d + 1) (st (i + 1)) = _
    unfold bodyS
    dsimp only
    rw [g3, if_pos g1]
    dsimp only
    rw [up_st, bb]
    dsimp only
    rw [g4]
  have f0 : PrM.is T ⟨#[40]⟩ (st i) = false := (is_tk h0 _).trans rfl
  have f1 : PrM.is T ⟨#[110, 105, 108]⟩ (st i) = false := (is_tk h0 _).trans rfl
  have f2 : PrM.is T ⟨#[116, 114, 117, 101]⟩ (st i) = false := (is_tk h0 _).trans rfl
  have f3 : PrM.is T ⟨#[102, 97, 108, 115, 101]⟩ (st i) = false := (is_tk h0 _).trans rfl
  have f4 : PrM.is T ⟨#[102, 117, 110, 99, 116, 105, 111, 110]⟩ (st i) = true := (is_tk h0 _).trans rfl
  have po : (fs T (F + 7)).post (d + 1) (st i) = (.e 7 (a : Int) 0 ⟨#[]⟩ 0 .nil (X.one (.f [] (rows p b q k))), st (i + 3 + 6 * b + 2 * k + 1)) := by
    show postS T (fs T (F + 6)) (d + 1) (st i) = _
    have kd : (PrM.tk T (st i)).kind = 1 := by rw [show PrM.tk T (st i) = _ from h0]
    unfold postS
    rw [if_neg (show ¬ (st i).code ≠ 0 from fun k => k rfl), if_neg (by rw [kd]; decide), if_neg (by rw [f0]; exact Bool.false_ne_true), if_neg (by rw [kd]; decide), if_neg (by rw [kd]; decide), if_neg (by rw [f1]; exact Bool.false_ne_true), if_neg (by rw [f2]; exact Bool.false_ne_true), if_neg (by rw [f3]; exact Bool.false_ne_true), if_pos f4, up_st, bd, place_st h0]
  have un : (fs T (F + 8)).unary (d + 1) (st i) = (.e 7 (a : Int) 0 ⟨#[]⟩ 0 .nil (X.one (.f [] (rows p b q k))), st (i + 3 + 6 * b + 2 * k + 1)) := by
    show unaryS T (fs T (F + 7)) (d + 1) (st i) = _
    have uk : unK T (st i) = 0 := by
      unfold unK
      rw [if_neg (by rw [show PrM.is T ⟨#[110, 111, 116]⟩ (st i) = false from (is_tk h0 _).trans rfl]; exact Bool.false_ne_true), if_neg (by rw [show PrM.is T ⟨#[45]⟩ (st i) = false from (is_tk h0 _).trans rfl]; exact Bool.false_ne_true), if_neg (by rw [show PrM.is T ⟨#[35]⟩ (st i) = false from (is_tk h0 _).trans rfl]; exact Bool.false_ne_true)]
    unfold unaryS
    rw [if_pos uk, po]
  have l6 : (fs T (F + 9)).level 6 (d + 1) (st i) = (.e 7 (a : Int) 0 ⟨#[]⟩ 0 .nil (X.one (.f [] (rows p b q k))), st (i + 3 + 6 * b + 2 * k + 1)) := by
    show levelS T (fs T (F + 8)) 6 (d + 1) (st i) = _
    unfold levelS
    rw [if_neg (show ¬ (st i).code ≠ 0 from fun k => k rfl), if_neg (by decide), if_pos rfl, un]
  have l5 := level_up (F + 9) 5 (d + 1) (by decide) (by decide) l6 h4 rfl
  have l4 := level_up (F + 10) 4 (d + 1) (by decide) (by decide) l5 h4 rfl
  have jo : (fs T (F + 12)).join (d + 1) (st i) = (.e 7 (a : Int) 0 ⟨#[]⟩ 0 .nil (X.one (.f [] (rows p b q k))), st (i + 3 + 6 * b + 2 * k + 1)) := by
    show joinS T (fs T (F + 11)) (d + 1) (st i) = _
    unfold joinS
    rw [l4]
    dsimp only
    rw [if_neg (by rw [is_no h4 rfl]; exact Bool.false_ne_true)]
  have l3 : (fs T (F + 13)).level 3 (d + 1) (st i) = (.e 7 (a : Int) 0 ⟨#[]⟩ 0 .nil (X.one (.f [] (rows p b q k))), st (i + 3 + 6 * b + 2 * k + 1)) := by
    show levelS T (fs T (F + 12)) 3 (d + 1) (st i) = _
    unfold levelS
    rw [if_neg (show ¬ (st i).code ≠ 0 from fun k => k rfl), if_pos rfl, jo]
  have l2 := level_up (F + 13) 2 (d + 1) (by decide) (by decide) l3 h4 rfl
  have l1 := level_up (F + 14) 1 (d + 1) (by decide) (by decide) l2 h4 rfl
  have l0 := level_up (F + 15) 0 (d + 1) (by decide) (by decide) l1 h4 rfl
  refine ⟨?_, h4⟩
  show (fs T (F + 16)).level 0 (d + 1) (deep T (d + 1) (st i)) = _
  rw [show deep T (d + 1) (st i) = st i from if_neg (by omega)]
  exact l0
/-- A script of blocks and names alone. -/
theorem script_top {b k n : Nat} (hk : 1 ≤ k) (T : List LxM.T) (h : T = tkBlks 0 b ++ (tkLocs (23 * b) k ++ [⟨0, [], 0, n⟩])) : (script T).1 = rows 0 b (23 * b) k ∧ (script T).2.code = 0 ∧ (script T).2.at_ = 0 := by
  obtain ⟨ba, h3, _⟩ := block_all (T := T) 11995 1 (by decide) (i := 0) hk h ⟨show ([] : List UInt8) ≠ [61] by decide, show ([] : List UInt8) ≠ [59] by decide⟩ (Or.inl rfl)
  have bb : (fs T 12000).block 0 ⟨0, 0, 0⟩ = (rows 0 b (23 * b) k, st (0 + 6 * b + 2 * k)) := ba
  unfold script
  rw [bb]
  dsimp only
  rw [if_neg (by rw [h3]; exact fun k => k.2 rfl)]
  exact ⟨rfl, rfl, rfl⟩
def S2 (b k : Nat) : X := .s 1 0 [⟨#[102]⟩] (X.one (.e 7 10 0 ⟨#[]⟩ 0 .nil (X.one (.f [] (rows 21 b (21 + 23 * b) k))))) .nil
/-- A script of a function of blocks and names. -/
theorem script_fun {b k u v : Nat} (hk : 1 ≤ k) (T : List LxM.T) (h : T = tkPre ++ (tkBlks 21 b ++ (tkLocs (21 + 23 * b) k ++ [⟨1, fin, 0, u⟩, ⟨0, [], 0, v⟩]))) : (script T).1 = .cons (S2 b k) .nil ∧ (script T).2.code = 0 ∧ (script T).2.at_ = 0 := by
  have h' : T.drop 0 = _ := h
  obtain ⟨h0, d1⟩ := at_drop h' 0 0
  obtain ⟨h1, d2⟩ := at_drop d1 0 0
  obtain ⟨h2, d3⟩ := at_drop d2 0 0
  obtain ⟨ex, h4⟩ := exp_fun (T := T) 11981 1 (by decide) hk (i := 3) d3
  have e0 : PrM.is T ⟨#[108, 111, 99, 97, 108]⟩ (st 0) = true := (is_tk h0 _).trans rfl
  have e1 : PrM.is T ⟨#[102, 117, 110, 99, 116, 105, 111, 110]⟩ (st 1) = false := (is_tk (i := 1) h1 _).trans rfl
  have e2 : PrM.is T ⟨#[61]⟩ (st 2) = true := (is_tk (i := 2) h2 _).trans rfl
  have n1 : nameT T (st 1) = ⟨#[102]⟩ := by
    unfold nameT
    rw [show PrM.tk T (st 1) = _ from h1]
    rw [if_pos ⟨rfl, rfl⟩]
  have n2 : nameS T (st 1) = st 2 := by
    unfold nameS
    rw [show PrM.tk T (st 1) = _ from h1, if_pos rfl, if_pos (show (st 1).code = 0 from rfl)]
    rfl
  have sl : (fs T 11999).stat (.s 0 ((0 : Nat) : Int) [] .nil .nil) 1 (st 0) = (S2 b k, st (3 + 3 + 6 * b + 2 * k + 1)) := by
    show statS T (fs T 11998) 1 ((0 : Nat) : Int) (st 0) = _
    unfold statS
    rw [if_pos e0, up_st, if_neg (by rw [e1]; exact Bool.false_ne_true)]
    dsimp only
    rw [n2, if_pos e2, up_st, n1]
    rw [show (fs T 11998).exp 1 (st (2 + 1)) = _ from ex]
    rfl
  obtain ⟨m, hm⟩ : ∃ m, T.length = m + 1 := ⟨T.length - 1, by rw [h]; simp [tkPre]⟩
  have bb : (fs T 12000).block 0 ⟨0, 0, 0⟩ = (.cons (S2 b k) .nil, st (3 + 3 + 6 * b + 2 * k + 1)) := by
    show blockL T (fs T 11999) 1 T.length .nil (st 0) = _
    rw [hm, block_step (t := ⟨1, wLocal, 0, 0⟩) h0 rfl (Or.inl rfl) sl h4 ⟨show ([] : List UInt8) ≠ [61] by decide, show ([] : List UInt8) ≠ [59] by decide⟩, block_end h4 (Or.inl rfl)]
    rfl
  unfold script
  rw [bb]
  dsimp only
  rw [if_neg (by rw [h4]; exact fun k => k.2 rfl)]
  exact ⟨rfl, rfl, rfl⟩
end Mny
end Go.Proofs.Ytclfjkleijkekaa
