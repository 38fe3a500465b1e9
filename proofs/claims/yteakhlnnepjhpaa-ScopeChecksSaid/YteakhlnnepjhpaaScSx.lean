/- The document's tokens are short, so the rows of its trees are. No program is named. -/
import Derived.Test.YteakhlnnepjhpaaKj
namespace Go.Proofs.Yteakhlnnepjhpaa
open PrM
set_option linter.unusedVariables false
theorem tk_short {l : List UInt8} {t : LxM.T} {r : List UInt8} (h : LxM.tk l = some (t, r)) : t.text.length ≤ 4096 := by
 cases l with
 | nil => cases h
 | cons c r0 =>
  unfold LxM.tk at h
  dsimp only at h
  split at h
  ·unfold LxM.tkW at h
   split at h
   ·rename_i k
    injection h with h
    injection h with h _
    subst h
    show (List.takeWhile LxM.wdb (c :: r0)).length ≤ 4096
    omega
   ·cases h
  ·split at h
   ·unfold LxM.tkN at h
    rw [Option.map_eq_some_iff] at h
    obtain ⟨x, _, he⟩ := h
    injection he with he _
    subst he
    exact Nat.zero_le _
   ·split at h
    ·unfold LxM.tkQ LxM.qs at h
     rw [Option.map_eq_some_iff] at h
     obtain ⟨x, hx, he⟩ := h
     injection he with he _
     subst he
     rw [Option.filter_eq_some_iff] at hx
     exact of_decide_eq_true hx.2
    ·unfold LxM.tkS at h
     split at h
     ·injection h with h
      injection h with h _
      subst h
      show (List.take 2 (c :: r0)).length ≤ 4096
      rw [List.length_take]
      omega
     ·split at h
      ·injection h with h
       injection h with h _
       subst h
       show (List.take 1 (c :: r0)).length ≤ 4096
       rw [List.length_take]
       omega
      ·cases h
theorem lexT_short (n : Nat) : ∀ (k : Nat) (l : List UInt8) (a : List LxM.T), l.length ≤ k → LxM.lexT n l = .ok a → PrM.Tx 4096 a := by
 intro k
 induction k with
 | zero =>
  intro l a hk h
  obtain rfl : l = [] := List.eq_nil_of_length_eq_zero (by omega)
  rw [LxM.lexT_nil] at h
  injection h with h
  subst h
  intro t ht
  simp at ht
  subst ht
  exact Nat.zero_le _
 | succ k ih =>
  intro l a hk h
  cases l with
  | nil =>
   rw [LxM.lexT_nil] at h
   injection h with h
   subst h
   intro t ht
   simp at ht
   subst ht
   exact Nat.zero_le _
  | cons c r0 =>
   cases ht : LxM.tk (c :: r0) with
   | none => rw [LxM.lexT_bad _ _ (by simp) ht] at h; cases h
   | some q =>
    obtain ⟨x, r⟩ := q
    have hlen := LxM.tk_len ht
    have hs := LxM.sk_len r false
    rw [LxM.lexT_ok _ _ _ _ ht] at h
    cases hr : LxM.lexS n r with
    | bad p => rw [hr] at h; cases h
    | ok b =>
     rw [hr] at h
     injection h with h
     subst h
     intro t hm
     rcases List.mem_cons.1 hm with e | hm
     ·subst e
      show x.text.length ≤ 4096
      exact tk_short ht
     ·exact ih _ b (by simp at hk hlen; omega) hr t hm
theorem lex_short {l : List UInt8} {T : List LxM.T} (h : LxM.lex l = .ok T) : PrM.Tx 4096 T := lexT_short l.length _ _ _ (Nat.le_refl _) h
theorem script_fits {l : List UInt8} {T : List LxM.T} (h : LxM.lex l = .ok T) (hn : T.length ≤ 2001) : (script T).1.fit 100000 :=
 script_fit T (fun t ht => Nat.le_trans (lex_short h t ht) (by decide)) (by omega)
end Go.Proofs.Yteakhlnnepjhpaa
