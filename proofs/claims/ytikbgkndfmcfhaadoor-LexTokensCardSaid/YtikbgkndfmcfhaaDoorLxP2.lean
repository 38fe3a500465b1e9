/- Tokens of a script, plain: blanks put in between tokens; texts between marks. No program is named. -/
import Derived.Test.YtikbgkndfmcfhaaDoorLxP
set_option linter.unusedVariables false
namespace Go.Proofs.YtikbgkndfmcfhaaDoor.LxM
theorem first_at {n : Nat} {l : List UInt8} {a : List T} (h : lexT n l = .ok a) : ∃ (x : T) (r : List T), a = x :: r ∧ x.at_ = n - l.length := by
  cases l with
  | nil =>
    rw [lexT_nil] at h
    injection h with h
    exact ⟨_, _, h.symm, rfl⟩
  | cons c r0 =>
    cases ht : tk (c :: r0) with
    | none => rw [lexT_bad _ _ (by simp) ht] at h; cases h
    | some q =>
      obtain ⟨x, r⟩ := q
      rw [lexT_ok _ _ _ _ ht] at h
      cases hr : lexS n r with
      | bad p => rw [hr] at h; cases h
      | ok b =>
        rw [hr] at h
        injection h with h
        exact ⟨_, _, h.symm, rfl⟩
/-- A text that is skipped wherever it stands. -/
structure Blank (w : List UInt8) : Prop where
  hd : bl (hd w) = true
  t : sk true w = []
  f : ∀ l, sk false (w ++ l) = sk false l
theorem blanks (n d : Nat) (w : List UInt8) (hw : w.length = d) (B : Blank w) : ∀ (k : Nat) (l : List UInt8) (a : List T), l.length ≤ n → lexS n l = .ok a → ∀ hk : k < a.length, ∃ p, p ≤ l.length ∧ a[k].at_ = n - l.length + p ∧ lexS (n + d) (l.take p ++ (w ++ l.drop p)) = .ok (a.take k ++ (a.drop k).map (mv d)) := by
  intro k
  induction k with
  | zero =>
    intro l a hn h hk
    obtain ⟨b, m', e, hm, kk⟩ := sk_split l false
    obtain ⟨l1, e1⟩ : ∃ l1, sk false l = l1 := ⟨_, rfl⟩
    have h' : lexT n l1 = .ok a := by rw [← e1]; exact h
    have hid := sk_idem l false
    rw [e1] at e hm hid
    obtain ⟨x, r, rfl, hx⟩ := first_at h'
    have el : l.length = b.length + l1.length := by rw [e, List.length_append]
    refine ⟨b.length, by omega, ?_, ?_⟩
    · show x.at_ = _
      rw [hx]; omega
    · have t1 : l.take b.length = b := by rw [e, List.take_left]
      have t2 : l.drop b.length = l1 := by rw [e, List.drop_left]
      rw [t1, t2]
      show lexT (n + d) (sk false (b ++ (w ++ l1))) = _
      have q : sk m' (w ++ l1) = l1 := by
        rcases hid with rfl | hid
        · rw [List.append_nil]
          cases m'
          · have := B.f []; rw [List.append_nil] at this; rw [this]; rfl
          · exact B.t
        · by_cases hn : l1 = []
          · subst hn
            rw [List.append_nil]
            cases m'
            · have := B.f []; rw [List.append_nil] at this; rw [this]; rfl
            · exact B.t
          · rw [hm hn, B.f, hid]
      rw [kk, q, shift d n _ l1 (Nat.le_refl _) (by omega), h']
      rfl
  | succ k ih =>
    intro l a hn h hk
    rcases lexS_cut h with ⟨h0, rfl⟩ | ⟨b, z, x, r, a', e, hz, hr, rfl, hc⟩
    · simp at hk
    · have el : l.length = b.length + (z.length + r.length) := by rw [e]; simp
      obtain ⟨p, hp, hat, hl⟩ := ih r a' (by omega) hr (by simpa using hk)
      refine ⟨b.length + z.length + p, by omega, ?_, ?_⟩
      · have hk' : k < a'.length := by simpa using hk
        show (a'[k]'hk').at_ = _
        rw [hat]; omega
      · have t1 : l.take (b.length + z.length + p) = b ++ (z ++ r.take p) := by
          rw [e, ← List.append_assoc, List.take_append, List.take_of_length_le (by rw [List.length_append]; omega)]
          rw [show b.length + z.length + p - (b ++ z).length = p by simp]
          rw [List.append_assoc]
        have t2 : l.drop (b.length + z.length + p) = r.drop p := by
          rw [e, ← List.append_assoc, List.drop_append, List.drop_eq_nil_of_le (by rw [List.length_append]; omega)]
          rw [show b.length + z.length + p - (b ++ z).length = p by simp]
          rfl
        have hlike : Like r (r.take p ++ (w ++ r.drop p)) := by
          cases p with
          | zero =>
            refine .inr ?_
            rw [List.take_zero, List.nil_append]
            cases w with
            | nil => exact absurd B.hd (by decide)
            | cons c w => exact B.hd
          | succ p =>
            cases r with
            | nil => simp at hp
            | cons c r => exact .inl rfl
        have q := hc (n + d) _ hlike
        rw [t1, t2, List.append_assoc, List.append_assoc, q, hl]
        show Ans.ok (_ :: _) = Ans.ok (_ :: _)
        congr 2
        have ew : (r.take p ++ (w ++ r.drop p)).length = r.length + d := by
          rw [List.length_append, List.length_append, List.length_take, List.length_drop]; omega
        congr 1
        have ew2 : (z ++ (r.take p ++ (w ++ r.drop p))).length = z.length + (r.length + d) := by rw [List.length_append, ew]
        rw [ew2, List.length_append]
        omega
/-- LexBlanks. -/
theorem lex_blanks (s w : List UInt8) (a : List T) (B : Blank w) (hs : lex s = .ok a) (k : Nat) (hk : k < a.length) : a[k].at_ ≤ s.length ∧ lex (s.take a[k].at_ ++ (w ++ s.drop a[k].at_)) = .ok (a.take k ++ (a.drop k).map (mv w.length)) := by
  obtain ⟨p, hp, hat, hl⟩ := blanks s.length w.length w rfl B k s a (Nat.le_refl _) hs hk
  have e : a[k].at_ = p := by rw [hat]; omega
  rw [e]
  refine ⟨hp, ?_⟩
  unfold lex
  have el : (s.take p ++ (w ++ s.drop p)).length = s.length + w.length := by
    rw [List.length_append, List.length_append, List.length_take, List.length_drop]; omega
  rw [el]
  exact hl
theorem blank1 : Blank [32] := ⟨by decide, by decide, fun l => by rw [List.singleton_append, sk, if_pos (by decide)]⟩
theorem blank2 : Blank [9] := ⟨by decide, by decide, fun l => by rw [List.singleton_append, sk, if_pos (by decide)]⟩
theorem blank3 : Blank [10] := ⟨by decide, by decide, fun l => by rw [List.singleton_append, sk, if_pos (by decide)]⟩
theorem blank4 : Blank [13] := ⟨by decide, by decide, fun l => by rw [List.singleton_append, sk, if_pos (by decide)]⟩
theorem blank5 : Blank [32, 45, 45, 120, 10] := ⟨by decide, by decide, fun l => by
  show sk false (32 :: 45 :: 45 :: 120 :: 10 :: l) = _
  rw [sk, if_pos (by decide), sk, if_neg (by decide), if_pos ⟨rfl, rfl⟩, sk, if_neg (by decide), sk, if_neg (by decide), sk, if_pos rfl]⟩
theorem blank6 : Blank [32, 32, 10, 32] := ⟨by decide, by decide, fun l => by
  show sk false (32 :: 32 :: 10 :: 32 :: l) = _
  rw [sk, if_pos (by decide), sk, if_pos (by decide), sk, if_pos (by decide), sk, if_pos (by decide)]⟩
/-- How a byte may be said between marks m. -/
def Piece (m c : UInt8) (e : List UInt8) : Prop := (e = [c] ∧ c ≠ m ∧ c ≠ 10 ∧ c ≠ 92) ∨ ∃ a b, e = [92, 120, a, b] ∧ hx (i a) = (c.toNat / 16 : Nat) ∧ hx (i b) = (c.toNat % 16 : Nat)
/-- How a text may be said. -/
inductive Said (m : UInt8) : List UInt8 → List UInt8 → Prop
  | nil : Said m [] []
  | cons {c : UInt8} {e s t : List UInt8} : Piece m c e → Said m s t → Said m (c :: s) (e ++ t)
theorem Said.snoc {m c : UInt8} {s t e : List UInt8} (h : Said m s t) (p : Piece m c e) : Said m (s ++ [c]) (t ++ e) := by
  induction h with
  | nil => have := Said.cons p Said.nil; rwa [List.append_nil] at this
  | cons q _ ih => rw [List.append_assoc]; exact Said.cons q ih
theorem said_qt {m : UInt8} (hm : m = 34 ∨ m = 39) {s t : List UInt8} (h : Said m s t) (u : List UInt8) : qt m (t ++ u) = (qt m u).map fun x => (s ++ x.1, x.2) := by
  induction h with
  | nil => cases h : qt m u <;> simp [h]
  | @cons c e s t p _ ih =>
    rcases p with ⟨rfl, h1, h2, h3⟩ | ⟨a, b, rfl, h1, h2⟩
    · rw [List.singleton_append, List.cons_append, qt.eq_def]
      dsimp only
      rw [if_neg h1, if_neg h2, if_neg h3, ih]
      cases qt m u <;> rfl
    · rw [List.append_assoc]
      show qt m (92 :: 120 :: a :: b :: (t ++ u)) = _
      have n1 : ¬ (92 : UInt8) = m := by rcases hm with rfl | rfl <;> decide
      rw [qt.eq_def]
      dsimp only
      rw [if_neg n1, if_neg (by decide), if_pos rfl, if_neg (by decide), if_neg (by decide), if_neg (by decide), if_pos rfl]
      have c9 := c.toNat_lt
      rw [if_neg (by rw [h1, h2]; omega), h1, h2, ih]
      have e : UInt8.ofNat ((((c.toNat / 16 : Nat) : Int) * 16 + ((c.toNat % 16 : Nat) : Int)).toNat) = c := by
        have : (((c.toNat / 16 : Nat) : Int) * 16 + ((c.toNat % 16 : Nat) : Int)).toNat = c.toNat := by omega
        rw [this]; simp
      rw [e]
      cases qt m u <;> rfl
theorem mark_tk {m : UInt8} (hm : m = 34 ∨ m = 39) (u : List UInt8) : sk false (m :: u) = m :: u ∧ tk (m :: u) = tkQ m u := by
  rcases hm with rfl | rfl
  · exact ⟨by rw [sk, if_neg (by decide), if_neg (by simp)], by unfold tk; dsimp only; rw [if_neg (by decide), if_neg (by decide), if_pos (.inl rfl)]⟩
  · exact ⟨by rw [sk, if_neg (by decide), if_neg (by simp)], by unfold tk; dsimp only; rw [if_neg (by decide), if_neg (by decide), if_pos (.inr rfl)]⟩
/-- LexTexts: between marks. -/
theorem lex_said {m : UInt8} (hm : m = 34 ∨ m = 39) {s t : List UInt8} (h : Said m s t) (hs : s.length ≤ 4096) : lex (m :: (t ++ [m])) = .ok [⟨4, s, 0, 0⟩, ⟨0, [], 0, (m :: (t ++ [m])).length⟩] := by
  obtain ⟨k1, k2⟩ := mark_tk hm (t ++ [m])
  have q : qt m (t ++ [m]) = some (s, []) := by
    rw [said_qt hm h]
    have : qt m [m] = some ([], []) := by rw [qt.eq_def]; dsimp only; rw [if_pos rfl]
    rw [this]; simp
  have e : tk (m :: (t ++ [m])) = some (⟨4, s, 0, 0⟩, []) := by
    rw [k2]
    unfold tkQ qs
    rw [q]
    simp [Option.filter, hs]
  unfold lex lexS
  rw [k1, lexT_ok _ _ _ _ e]
  unfold lexS
  rw [sk, lexT_nil]
  show Ans.ok [_, _] = _
  congr 2
  simp
/-- LexTexts: without an end. -/
theorem lex_open {m : UInt8} (hm : m = 34 ∨ m = 39) {s t : List UInt8} (h : Said m s t) : lex (32 :: m :: t) = .bad 1 := by
  obtain ⟨k1, k2⟩ := mark_tk hm t
  have q : qt m t = none := by
    have := said_qt hm h []
    rw [List.append_nil] at this
    rw [this, qt.eq_def]; rfl
  have e : tk (m :: t) = none := by
    rw [k2]
    unfold tkQ qs
    rw [q]; rfl
  unfold lex lexS
  rw [sk, if_pos (by decide), k1, lexT_bad _ _ (by simp) e]
  simp
end Go.Proofs.YtikbgkndfmcfhaaDoor.LxM
