/- Trees, plain: tokens' texts are short; a tree is the same as itself; where places are moved it is another one, and bare the same. No program is named. -/
import Derived.Test.YtbcjpnmakcmndaaGreatDoorKv
import Derived.Test.YtbcjpnmakcmndaaGreatDoorKj
namespace Go.Proofs.YtbcjpnmakcmndaaGreatDoor
open PrM
set_option linter.unusedVariables false
theorem tk_short {l : List UInt8} {t : LxM.T} {r : List UInt8} (h : LxM.tk l = some (t, r)) : t.text.length ≤ 4096 := by
 cases l with
 | nil => cases h
 | cons c r0 =>
  unfold LxM.tk at h
  dsimp only at h
  split at h
  ·unfold LxM.tkW at h
   split at h
   ·rename_i k
    injection h with h
    injection h with h _
    subst h
    show (List.takeWhile LxM.wdb (c :: r0)).length ≤ 4096
    omega
   ·cases h
  ·split at h
   ·unfold LxM.tkN at h
    rw [Option.map_eq_some_iff] at h
    obtain ⟨x, _, he⟩ := h
    injection he with he _
    subst he
    exact Nat.zero_le _
   ·split at h
    ·unfold LxM.tkQ LxM.qs at h
     rw [Option.map_eq_some_iff] at h
     obtain ⟨x, hx, he⟩ := h
     injection he with he _
     subst he
     rw [Option.filter_eq_some_iff] at hx
     exact of_decide_eq_true hx.2
    ·unfold LxM.tkS at h
     split at h
     ·injection h with h
      injection h with h _
      subst h
      show (List.take 2 (c :: r0)).length ≤ 4096
      rw [List.length_take]
      omega
     ·split at h
      ·injection h with h
       injection h with h _
       subst h
       show (List.take 1 (c :: r0)).length ≤ 4096
       rw [List.length_take]
       omega
      ·cases h
theorem lexT_short (n : Nat) : ∀ (k : Nat) (l : List UInt8) (a : List LxM.T), l.length ≤ k → LxM.lexT n l = .ok a → PrM.Tx 4096 a := by
 intro k
 induction k with
 | zero =>
  intro l a hk h
  obtain rfl : l = [] := List.eq_nil_of_length_eq_zero (by omega)
  rw [LxM.lexT_nil] at h
  injection h with h
  subst h
  intro t ht
  simp at ht
  subst ht
  exact Nat.zero_le _
 | succ k ih =>
  intro l a hk h
  cases l with
  | nil =>
   rw [LxM.lexT_nil] at h
   injection h with h
   subst h
   intro t ht
   simp at ht
   subst ht
   exact Nat.zero_le _
  | cons c r0 =>
   cases ht : LxM.tk (c :: r0) with
   | none => rw [LxM.lexT_bad _ _ (by simp) ht] at h; cases h
   | some q =>
    obtain ⟨x, r⟩ := q
    have hlen := LxM.tk_len ht
    have hs := LxM.sk_len r false
    rw [LxM.lexT_ok _ _ _ _ ht] at h
    cases hr : LxM.lexS n r with
    | bad p => rw [hr] at h; cases h
    | ok b =>
     rw [hr] at h
     injection h with h
     subst h
     intro t hm
     rcases List.mem_cons.1 hm with e | hm
     ·subst e
      show x.text.length ≤ 4096
      exact tk_short ht
     ·exact ih _ b (by simp at hk hlen; omega) hr t hm
theorem lex_short {l : List UInt8} {T : List LxM.T} (h : LxM.lex l = .ok T) : PrM.Tx 4096 T := lexT_short l.length _ _ _ (Nat.le_refl _) h
theorem script_fits {l : List UInt8} {T : List LxM.T} (h : LxM.lex l = .ok T) (hn : T.length ≤ 2001) : (script T).1.fit 100000 :=
 script_fit T (fun t ht => Nat.le_trans (lex_short h t ht) (by decide)) (by omega)
theorem same_refl (x : X) : x.same x = true := by
 induction x with
 | nil => rfl
 | cons a t u v => show (a.same a && t.same t) = true; rw [u, v]; rfl
 | e k a n sv op l fv u v => show (decide (k = k) && (decide (a = a) && (decide (n = n) && (decide (sv = sv) && (decide (op = op) && (l.same l && fv.same fv)))))) = true; rw [u, v]; simp
 | f ps b u => show (decide (ps = ps) && b.same b) = true; rw [u]; simp
 | s k a ns l b u v => show (decide (k = k) && (decide (a = a) && (decide (ns = ns) && (l.same l && b.same b)))) = true; rw [u, v]; simp
 | blk l u => exact u
theorem same_first {x y t u : X} (h : (X.cons x t).first ≠ (X.cons y u).first) : (X.cons x t).same (.cons y u) = false := by
 show (x.same y && t.same u) = false
 have e : x.same y = false := by
  cases x <;> cases y <;> first
   | rfl
   | exact absurd rfl h
   |(rename_i k a ns l b k' a' ns' l' b'
     show (decide (k = k') && (decide (a = a') && (decide (ns = ns') && (l.same l' && b.same b')))) = false
     have ha : a ≠ a' := h
     simp [ha])
 rw [e]
 rfl
/-- A script whose places are moved. -/
theorem script_moved (T : List LxM.T) (m : Nat) (hp : 0 < T.length) : (script (mvT m T)).2.code = (script T).2.code ∧ (script (mvT m T)).1.bare = (script T).1.bare ∧ (script T).1.same (script (mvT m T)).1 = (decide (m = 0) || decide ((script T).1.len = 0)) := by
 have hb := script_bare (T := mvT m T) (T' := T) (er_mv m T)
 refine ⟨hb.2, hb.1, ?_⟩
 by_cases h0 : m = 0
 ·subst h0
  have : mvT 0 T = T := by unfold mvT; simp
  rw [this, same_refl]
  simp
 ·have hl : (script (mvT m T)).1.len = (script T).1.len := by rw [← X.bare_len, hb.1, X.bare_len]
  rcases script_first T with e | ⟨x, t, e, ef⟩
  ·rw [e] at hl ⊢
   rcases script_first (mvT m T) with e2 | ⟨y, u, e2, ef2⟩
   ·rw [e2]
    simp [X.len, h0]
    rfl
   ·rw [e2] at hl
    exact absurd hl (Nat.succ_ne_zero _)
  ·rw [e] at hl ⊢
   rcases script_first (mvT m T) with e2 | ⟨y, u, e2, ef2⟩
   ·rw [e2] at hl
    exact absurd hl.symm (Nat.succ_ne_zero _)
   ·rw [e2, same_first (by rw [ef, ef2, place_mv m T hp]; omega)]
    simp [X.len, h0]
end Go.Proofs.YtbcjpnmakcmndaaGreatDoor
