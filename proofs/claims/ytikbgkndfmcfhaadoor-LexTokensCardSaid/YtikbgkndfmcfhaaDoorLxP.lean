/- Tokens of a script, plain: texts put together, blanks put in. No program is named. -/
import Derived.Test.YtikbgkndfmcfhaaDoorLxM
set_option linter.unusedVariables false
namespace Go.Proofs.YtikbgkndfmcfhaaDoor.LxM
theorem hd_app {z r : List UInt8} (h : z ≠ []) : hd (z ++ r) = hd z := by
  cases z with
  | nil => exact absurd rfl h
  | cons c z => rfl
theorem sk_shorter (r0 : List UInt8) (c : UInt8) : (sk true (c :: r0)).length < (c :: r0).length := by
  rw [sk]
  split
  · have := sk_len r0 false; simp; omega
  · have := sk_len r0 true; simp; omega
/-- Where the skipping ends. -/
theorem sk_split : ∀ (l : List UInt8) (m : Bool), ∃ b m', l = b ++ sk m l ∧ (sk m l ≠ [] → m' = false) ∧ ∀ u, sk m (b ++ u) = sk m' u
  | [], m => ⟨[], m, by cases m <;> rfl, fun h => absurd (by cases m <;> rfl) h, fun u => rfl⟩
  | c :: r, true => by
    by_cases hc : c = 10
    · obtain ⟨b, m', e, h, k⟩ := sk_split r false
      have q : sk true (c :: r) = sk false r := by rw [sk, if_pos hc]
      refine ⟨c :: b, m', by rw [q, List.cons_append, ← e], by rw [q]; exact h, fun u => ?_⟩
      rw [List.cons_append, sk, if_pos hc]; exact k u
    · obtain ⟨b, m', e, h, k⟩ := sk_split r true
      have q : sk true (c :: r) = sk true r := by rw [sk, if_neg hc]
      refine ⟨c :: b, m', by rw [q, List.cons_append, ← e], by rw [q]; exact h, fun u => ?_⟩
      rw [List.cons_append, sk, if_neg hc]; exact k u
  | c :: r, false => by
    by_cases hb : bl (i c) = true
    · obtain ⟨b, m', e, h, k⟩ := sk_split r false
      have q : sk false (c :: r) = sk false r := by rw [sk, if_pos hb]
      refine ⟨c :: b, m', by rw [q, List.cons_append, ← e], by rw [q]; exact h, fun u => ?_⟩
      rw [List.cons_append, sk, if_pos hb]; exact k u
    · by_cases hc : c = 45 ∧ hd r = 45
      · obtain ⟨b, m', e, h, k⟩ := sk_split r true
        have q : sk false (c :: r) = sk true r := by rw [sk, if_neg hb, if_pos hc]
        have hne : b ≠ [] := by
          intro eb
          subst eb
          cases r with
          | nil => have := hc.2; simp [hd] at this
          | cons c0 r0 =>
            have := sk_shorter r0 c0
            rw [List.nil_append] at e
            rw [← e] at this
            omega
        refine ⟨c :: b, m', by rw [q, List.cons_append, ← e], by rw [q]; exact h, fun u => ?_⟩
        have h45 : hd (b ++ u) = 45 := by
          rw [hd_app hne, ← hd_app (r := sk true r) hne, ← e]; exact hc.2
        rw [List.cons_append, sk, if_neg hb, if_pos ⟨hc.1, h45⟩]; exact k u
      · have q : sk false (c :: r) = c :: r := by rw [sk, if_neg hb, if_neg hc]
        exact ⟨[], false, by rw [q]; rfl, fun _ => rfl, fun u => rfl⟩
/-- What stands behind may be another text, if it begins alike or with a blank. -/
def Like (r r' : List UInt8) : Prop := hd r' = hd r ∨ bl (hd r') = true
theorem bl_wd {b : Int} (h : bl b = true) : wd b = false := by
  unfold bl at h
  simp only [Bool.or_eq_true, decide_eq_true_eq] at h
  rcases h with ((rfl | rfl) | rfl) | rfl <;> decide
theorem like_wd {r r' : List UInt8} (h : Like r r') (k : wd (hd r) = false) : wd (hd r') = false := by
  rcases h with h | h
  · rw [h]; exact k
  · exact bl_wd h
theorem wd_none : wd (-1) = false := by decide
theorem take_stop (z r : List UInt8) (hz : z.all wdb = true) (hr : wd (hd r) = false) : (z ++ r).takeWhile wdb = z ∧ (z ++ r).dropWhile wdb = r := by
  induction z with
  | nil =>
    cases r with
    | nil => exact ⟨rfl, rfl⟩
    | cons c r =>
      have : wdb c = false := hr
      simp [this]
  | cons c z ih =>
    rw [List.all_cons, Bool.and_eq_true] at hz
    obtain ⟨h1, h2⟩ := ih hz.2
    simp [hz.1, h1, h2]
theorem take_all (l : List UInt8) : (l.takeWhile wdb).all wdb = true := by
  induction l with
  | nil => rfl
  | cons c r ih =>
    rw [List.takeWhile_cons]
    split
    · rename_i h; rw [List.all_cons, h, ih]; rfl
    · rfl
theorem drop_hd (l : List UInt8) : wd (hd (l.dropWhile wdb)) = false := by
  induction l with
  | nil => exact wd_none
  | cons c r ih =>
    rw [List.dropWhile_cons]
    split
    · exact ih
    · rename_i h
      have : wdb c = false := by simpa using h
      exact this
theorem word_cut (l : List UInt8) : ∃ z, z = l.takeWhile wdb ∧ l = z ++ l.dropWhile wdb ∧ ∀ r', Like (l.dropWhile wdb) r' → (z ++ r').takeWhile wdb = z ∧ (z ++ r').dropWhile wdb = r' :=
  ⟨_, rfl, (List.takeWhile_append_dropWhile ..).symm, fun r' h => take_stop _ _ (take_all l) (like_wd h (drop_hd l))⟩
theorem qt_app (m : UInt8) : ∀ (n : Nat) (l o r : List UInt8), l.length ≤ n → qt m l = some (o, r) → ∃ z, l = z ++ r ∧ z ≠ [] ∧ ∀ u, qt m (z ++ u) = some (o, u) := by
  intro n
  induction n with
  | zero => intro l o r h e; cases l with
    | nil => simp [qt] at e
    | cons c r => simp at h
  | succ n ih =>
    intro l o r h e
    have up : ∀ (l1 : List UInt8) (x : UInt8), l1.length ≤ n → (qt m l1).map (fun y => (x :: y.1, y.2)) = some (o, r) → ∃ z, l1 = z ++ r ∧ z ≠ [] ∧ ∀ u, (qt m (z ++ u)).map (fun y => (x :: y.1, y.2)) = some (o, u) := by
      intro l1 x h1 h2
      rw [Option.map_eq_some_iff] at h2
      obtain ⟨⟨y1, y2⟩, hx, he⟩ := h2
      injection he with he1 he2
      dsimp only at he1 he2
      subst he2
      obtain ⟨z, e1, e2, e3⟩ := ih l1 y1 y2 h1 hx
      exact ⟨z, e1, e2, fun u => by rw [e3 u]; simp [he1]⟩
    cases l with
    | nil => simp [qt] at e
    | cons c r0 =>
      simp only [List.length_cons] at h
      rw [qt.eq_def] at e
      dsimp only at e
      by_cases c1 : c = m
      · rw [if_pos c1] at e
        injection e with e; injection e with e1 e2
        subst e1; subst e2
        exact ⟨[c], rfl, by simp, fun u => by rw [List.singleton_append, qt.eq_def]; dsimp only; rw [if_pos c1]⟩
      · rw [if_neg c1] at e
        by_cases c2 : c = 10
        · rw [if_pos c2] at e; cases e
        · rw [if_neg c2] at e
          by_cases c3 : c = 92
          · rw [if_pos c3] at e
            cases r0 with
            | nil => cases e
            | cons x r1 =>
              simp only [List.length_cons] at h
              dsimp only at e
              by_cases d1 : x = 110
              · rw [if_pos d1] at e
                obtain ⟨z, e1, e2, e3⟩ := up r1 10 (by omega) e
                exact ⟨c :: x :: z, by rw [e1]; rfl, by simp, fun u => by rw [List.cons_append, List.cons_append, qt.eq_def]; dsimp only; rw [if_neg c1, if_neg c2, if_pos c3, if_pos d1]; exact e3 u⟩
              · rw [if_neg d1] at e
                by_cases d2 : x = 116
                · rw [if_pos d2] at e
                  obtain ⟨z, e1, e2, e3⟩ := up r1 9 (by omega) e
                  exact ⟨c :: x :: z, by rw [e1]; rfl, by simp, fun u => by rw [List.cons_append, List.cons_append, qt.eq_def]; dsimp only; rw [if_neg c1, if_neg c2, if_pos c3, if_neg d1, if_pos d2]; exact e3 u⟩
                · rw [if_neg d2] at e
                  by_cases d3 : x = 92 ∨ x = 34 ∨ x = 39
                  · rw [if_pos d3] at e
                    obtain ⟨z, e1, e2, e3⟩ := up r1 x (by omega) e
                    exact ⟨c :: x :: z, by rw [e1]; rfl, by simp, fun u => by rw [List.cons_append, List.cons_append, qt.eq_def]; dsimp only; rw [if_neg c1, if_neg c2, if_pos c3, if_neg d1, if_neg d2, if_pos d3]; exact e3 u⟩
                  · rw [if_neg d3] at e
                    by_cases d4 : x = 120
                    · rw [if_pos d4] at e
                      cases r1 with
                      | nil => cases e
                      | cons a r2 => cases r2 with
                        | nil => cases e
                        | cons b r3 =>
                          simp only [List.length_cons] at h
                          dsimp only at e
                          by_cases d5 : hx (i a) = -1 ∨ hx (i b) = -1
                          · rw [if_pos d5] at e; cases e
                          · rw [if_neg d5] at e
                            obtain ⟨z, e1, e2, e3⟩ := up r3 _ (by omega) e
                            exact ⟨c :: x :: a :: b :: z, by rw [e1]; rfl, by simp, fun u => by rw [List.cons_append, List.cons_append, List.cons_append, List.cons_append, qt.eq_def]; dsimp only; rw [if_neg c1, if_neg c2, if_pos c3, if_neg d1, if_neg d2, if_neg d3, if_pos d4, if_neg d5]; exact e3 u⟩
                    · rw [if_neg d4] at e; cases e
          · rw [if_neg c3] at e
            obtain ⟨z, e1, e2, e3⟩ := up r0 c (by omega) e
            exact ⟨c :: z, by rw [e1]; rfl, by simp, fun u => by rw [List.cons_append, qt.eq_def]; dsimp only; rw [if_neg c1, if_neg c2, if_neg c3]; exact e3 u⟩
theorem sign_blank (c d : UInt8) (h : bl (i d) = true) : isSign [c, d] = false := by
  have hd : d = 32 ∨ d = 9 ∨ d = 10 ∨ d = 13 := by
    unfold bl i at h
    simp only [Bool.or_eq_true, decide_eq_true_eq] at h
    rcases h with ((h | h) | h) | h
    · exact .inl (UInt8.toNat_inj.1 (by have : (32 : UInt8).toNat = 32 := rfl; omega))
    · exact .inr (.inl (UInt8.toNat_inj.1 (by have : (9 : UInt8).toNat = 9 := rfl; omega)))
    · exact .inr (.inr (.inl (UInt8.toNat_inj.1 (by have : (10 : UInt8).toNat = 10 := rfl; omega))))
    · exact .inr (.inr (.inr (UInt8.toNat_inj.1 (by have : (13 : UInt8).toNat = 13 := rfl; omega))))
  rcases hd with rfl | rfl | rfl | rfl <;> simp [isSign, twos, ones]
theorem tkS_cut {l : List UInt8} {x : T} {r : List UInt8} (h : tkS l = some (x, r)) : ∃ z, l = z ++ r ∧ z ≠ [] ∧ ∀ r', Like r r' → tkS (z ++ r') = some (x, r') := by
  unfold tkS at h
  split at h
  · rename_i k
    injection h with h; injection h with h1 h2
    refine ⟨l.take 2, by rw [← h2]; exact (List.take_append_drop 2 l).symm, fun e => by have hh : (l.take 2).length = 0 := (congrArg List.length e).trans rfl; rw [List.length_take] at hh; have := k.1; omega, fun r' _ => ?_⟩
    have hl : (l.take 2).length = 2 := by rw [List.length_take]; omega
    unfold tkS
    rw [if_pos ⟨by rw [List.length_append]; omega, by rw [List.take_append_of_le_length (by omega), List.take_take]; exact k.2⟩]
    rw [List.take_append_of_le_length (by omega), List.take_take, ← h1]
    congr 2
    rw [List.drop_append_of_le_length (by omega), List.drop_eq_nil_of_le (by omega), List.nil_append]
  · rename_i k
    split at h
    · rename_i k1
      injection h with h; injection h with h1 h2
      cases l with
      | nil => exact absurd k1 (by decide)
      | cons c r0 =>
        have er : r = r0 := h2.symm
        subst er
        refine ⟨[c], rfl, by simp, fun r' hr => ?_⟩
        unfold tkS
        have no : ¬ (2 ≤ ([c] ++ r').length ∧ isSign (([c] ++ r').take 2) = true) := by
          rintro ⟨q1, q2⟩
          cases r' with
          | nil => simp at q1
          | cons d r1 =>
            rcases hr with hr | hr
            · cases r with
              | nil => have h0 : i d = -1 := hr; unfold i at h0; omega
              | cons d0 r2 =>
                have : d = d0 := UInt8.toNat_inj.1 (by have : i d = i d0 := hr; unfold i at this; omega)
                subst this
                exact k ⟨by simp, q2⟩
            · have := sign_blank c d hr
              have q2 : isSign [c, d] = true := q2
              rw [this] at q2; cases q2
        rw [if_neg no]
        have k1 : isSign [c] = true := k1
        have h1 : x = ⟨5, [c], 0, 0⟩ := h1.symm
        rw [if_pos (show isSign (([c] ++ r').take 1) = true from k1), h1]
        rfl
    · cases h
theorem tk_cut {l : List UInt8} {x : T} {r : List UInt8} (h : tk l = some (x, r)) : ∃ z, l = z ++ r ∧ z ≠ [] ∧ ∀ r', Like r r' → tk (z ++ r') = some (x, r') := by
  cases l with
  | nil => cases h
  | cons c r0 =>
    unfold tk at h
    dsimp only at h
    by_cases h1 : lt (i c) = true
    · rw [if_pos h1] at h
      unfold tkW at h
      split at h
      · rename_i hl
        injection h with h; injection h with e1 e2
        obtain ⟨z, ez, e3, e4⟩ := word_cut (c :: r0)
        rw [e2] at e3 e4
        have hz : ∃ z', z = c :: z' := ⟨r0.takeWhile wdb, by rw [ez, List.takeWhile_cons, if_pos (show wdb c = true from wd_lt h1)]⟩
        obtain ⟨z', hz⟩ := hz
        refine ⟨z, e3, by rw [hz]; simp, fun r' hr => ?_⟩
        obtain ⟨q1, q2⟩ := e4 r' hr
        have : tk (z ++ r') = tkW (z ++ r') := by rw [hz]; unfold tk; dsimp only [List.cons_append]; rw [if_pos h1]
        rw [this]
        unfold tkW
        rw [q1, q2, ← e1]
        rw [← ez] at hl ⊢
        rw [if_pos hl]
      · cases h
    · rw [if_neg h1] at h
      by_cases h2 : dg (i c) = true
      · rw [if_pos h2] at h
        unfold tkN at h
        rw [Option.map_eq_some_iff] at h
        obtain ⟨v, hv, he⟩ := h
        injection he with e1 e2
        obtain ⟨z, ez, e3, e4⟩ := word_cut (c :: r0)
        rw [e2] at e3 e4
        have hz : ∃ z', z = c :: z' := ⟨r0.takeWhile wdb, by rw [ez, List.takeWhile_cons, if_pos (show wdb c = true from wd_dg h2)]⟩
        obtain ⟨z', hz⟩ := hz
        refine ⟨z, e3, by rw [hz]; simp, fun r' hr => ?_⟩
        obtain ⟨q1, q2⟩ := e4 r' hr
        have : tk (z ++ r') = tkN (z ++ r') := by rw [hz]; unfold tk; dsimp only [List.cons_append]; rw [if_neg h1, if_pos h2]
        rw [this]
        unfold tkN
        rw [q1, q2, ez, hv, ← e1]
        rfl
      · rw [if_neg h2] at h
        by_cases h3 : c = 34 ∨ c = 39
        · rw [if_pos h3] at h
          unfold tkQ qs at h
          rw [Option.map_eq_some_iff] at h
          obtain ⟨⟨o, r1⟩, hx, he⟩ := h
          injection he with e1 e2
          dsimp only at e1 e2
          subst e2
          rw [Option.filter_eq_some_iff] at hx
          obtain ⟨z, e3, e4, e5⟩ := qt_app c _ r0 o r1 (Nat.le_refl _) hx.1
          refine ⟨c :: z, by rw [e3]; rfl, by simp, fun r' hr => ?_⟩
          rw [List.cons_append]
          unfold tk
          dsimp only
          rw [if_neg h1, if_neg h2, if_pos h3]
          unfold tkQ qs
          rw [e5 r', ← e1]
          have := hx.2
          simp only [Option.filter, this]
          rfl
        · rw [if_neg h3] at h
          obtain ⟨z, e1, e2, e3⟩ := tkS_cut h
          obtain ⟨z', rfl⟩ : ∃ z', z = c :: z' := by
            cases z with
            | nil => exact absurd rfl e2
            | cons d z' => injection e1 with q1 q2; exact ⟨z', by rw [q1]⟩
          refine ⟨c :: z', e1, e2, fun r' hr => ?_⟩
          have : tk ((c :: z') ++ r') = tkS ((c :: z') ++ r') := by unfold tk; dsimp only [List.cons_append]; rw [if_neg h1, if_neg h2, if_neg h3]
          rw [this]
          exact e3 r' hr
/-- What begins a token goes on beginning one. -/
theorem sk_keep {z r r' : List UInt8} (hz : z ≠ []) (h : sk false (z ++ r) = z ++ r) (hl : Like r r') : sk false (z ++ r') = z ++ r' := by
  cases z with
  | nil => exact absurd rfl hz
  | cons c z' =>
    rw [List.cons_append] at h ⊢
    have h0 : ¬ bl (i c) = true := by
      intro q
      rw [sk, if_pos q] at h
      have := sk_len (z' ++ r) false
      rw [h] at this
      simp at this; omega
    rw [sk, if_neg h0] at h
    have h1 : ¬ (c = 45 ∧ hd (z' ++ r) = 45) := by
      intro q
      rw [if_pos q] at h
      have := sk_len (z' ++ r) true
      rw [h] at this
      simp at this; omega
    rw [sk, if_neg h0, if_neg]
    rintro ⟨q1, q2⟩
    cases z' with
    | nil =>
      rcases hl with hl | hl
      · exact h1 ⟨q1, by rw [List.nil_append] at q2 ⊢; rw [← hl]; exact q2⟩
      · rw [List.nil_append] at q2; rw [q2] at hl; exact absurd hl (by decide)
    | cons d z2 => exact h1 ⟨q1, q2⟩
theorem sk_idem (l : List UInt8) (m : Bool) : sk m l = [] ∨ sk false (sk m l) = sk m l := by
  obtain ⟨b, m', e, h, k⟩ := sk_split l m
  by_cases hn : sk m l = []
  · exact .inl hn
  · refine .inr ?_
    have := k (sk m l)
    rw [← e, h hn] at this
    exact this.symm
/-- One token ahead. -/
theorem lexS_cut {n : Nat} {l : List UInt8} {a : List T} (h : lexS n l = .ok a) :
    (sk false l = [] ∧ a = [⟨0, [], 0, n⟩]) ∨ ∃ (b z : List UInt8) (x : T) (r : List UInt8) (a' : List T), l = b ++ (z ++ r) ∧ z ≠ [] ∧ lexS n r = .ok a' ∧ a = { x with at_ := n - (z ++ r).length } :: a' ∧
      ∀ n' r', Like r r' → lexS n' (b ++ (z ++ r')) = (lexS n' r').pre [{ x with at_ := n' - (z ++ r').length }] := by
  obtain ⟨b, m', e, hm, k⟩ := sk_split l false
  by_cases hn : sk false l = []
  · refine .inl ⟨hn, ?_⟩
    unfold lexS at h
    rw [hn, lexT_nil] at h
    injection h with h
    exact h.symm
  · refine .inr ?_
    have hid := (sk_idem l false).resolve_left hn
    obtain rfl := hm hn
    cases ht : tk (sk false l) with
    | none =>
      unfold lexS at h
      rw [lexT_bad _ _ hn ht] at h
      cases h
    | some q =>
      obtain ⟨x, r⟩ := q
      obtain ⟨z, ez, hz, hc⟩ := tk_cut ht
      have h' := h
      unfold lexS at h'
      rw [lexT_ok _ _ _ _ ht] at h'
      cases hr : lexS n r with
      | bad p => rw [hr] at h'; cases h'
      | ok a' =>
        rw [hr] at h'
        injection h' with h'
        refine ⟨b, z, x, r, a', by rw [← ez]; exact e, hz, hr, ?_, fun n' r' hl => ?_⟩
        · rw [← h', ez]; rfl
        · show lexT n' (sk false (b ++ (z ++ r'))) = _
          rw [k, sk_keep hz (by rw [← ez]; exact hid) hl, lexT_ok _ _ _ _ (hc r' hl)]
theorem lexS_ne {n : Nat} {l : List UInt8} {a : List T} (h : lexS n l = .ok a) : a ≠ [] := by
  rcases lexS_cut h with ⟨_, rfl⟩ | ⟨b, z, x, r, a', _, _, _, rfl, _⟩ <;> simp
/-- Two texts with a line's end between. -/
theorem joins (n m : Nat) (t : List UInt8) (ht : t.length = m) : ∀ (k : Nat) (l : List UInt8) (a : List T), l.length ≤ k → l.length ≤ n → lexS n l = .ok a → lexS (n + 1 + m) (l ++ 10 :: t) = (lexS (n + 1 + m) t).pre a.dropLast := by
  intro k
  induction k with
  | zero =>
    intro l a hk hn h
    obtain rfl : l = [] := List.eq_nil_of_length_eq_zero (by omega)
    rcases lexS_cut h with ⟨_, rfl⟩ | ⟨b, z, x, r, a', e, hz, _⟩
    · rw [List.nil_append]
      show lexS _ (10 :: t) = Ans.pre [] _
      rw [Ans.pre_nil]
      unfold lexS
      rw [sk, if_pos (by decide)]
    · have := congrArg List.length e
      have hzl : 0 < z.length := List.length_pos_iff.2 hz
      simp at this
      omega
  | succ k ih =>
    intro l a hk hn h
    rcases lexS_cut h with ⟨h0, rfl⟩ | ⟨b, z, x, r, a', e, hz, hr, rfl, hc⟩
    · obtain ⟨b, m', e, hm, kk⟩ := sk_split l false
      rw [h0, List.append_nil] at e
      subst e
      show lexT _ (sk false (l ++ 10 :: t)) = Ans.pre [] _
      rw [kk, Ans.pre_nil]
      unfold lexS
      congr 1
      cases m'
      · rw [sk, if_pos (by decide)]
      · rw [sk, if_pos rfl]
    · have hzl : 0 < z.length := List.length_pos_iff.2 hz
      have el : l.length = b.length + (z.length + r.length) := by rw [e]; simp
      have hl : Like r (r ++ 10 :: t) := by
        cases r with
        | nil => exact .inr (show bl (i 10) = true by decide)
        | cons c r => exact .inl rfl
      have q := hc (n + 1 + m) (r ++ 10 :: t) hl
      rw [e, List.append_assoc, List.append_assoc, q, ih r a' (by omega) (by omega) hr, Ans.pre_pre]
      have hne := lexS_ne hr
      rw [List.dropLast_cons_of_ne_nil hne]
      congr 2
      rw [List.singleton_append]
      congr 2
      simp only [List.length_append, List.length_cons]
      omega
def mv (d : Nat) (t : T) : T := { t with at_ := t.at_ + d }
def Ans.mv (d : Nat) : Ans → Ans
  | .ok l => .ok (l.map (LxM.mv d))
  | .bad p => .bad (p + d)
/-- More ahead moves places alone. -/
theorem shift (d n : Nat) : ∀ (k : Nat) (l : List UInt8), l.length ≤ k → l.length ≤ n → lexT (n + d) l = (lexT n l).mv d := by
  intro k
  induction k with
  | zero =>
    intro l hk hn
    obtain rfl : l = [] := List.eq_nil_of_length_eq_zero (by omega)
    rw [lexT_nil, lexT_nil]; rfl
  | succ k ih =>
    intro l hk hn
    cases l with
    | nil => rw [lexT_nil, lexT_nil]; rfl
    | cons c r0 =>
      cases ht : tk (c :: r0) with
      | none =>
        rw [lexT_bad _ _ (by simp) ht, lexT_bad _ _ (by simp) ht]
        show Ans.bad _ = Ans.bad _
        congr 1; omega
      | some q =>
        obtain ⟨x, r⟩ := q
        have hlen := tk_len ht
        have hs := sk_len r false
        rw [lexT_ok _ _ _ _ ht, lexT_ok _ _ _ _ ht]
        have := ih (sk false r) (by omega) (by omega)
        unfold lexS
        rw [this]
        cases lexT n (sk false r) with
        | ok a =>
          show Ans.ok _ = Ans.ok _
          congr 1
          show _ :: _ = LxM.mv d _ :: _
          congr 1
          unfold LxM.mv
          congr 1
          show n + d - (c :: r0).length = n - (c :: r0).length + d
          omega
        | bad p => rfl
theorem shiftS (d n : Nat) (l : List UInt8) (hn : l.length ≤ n) : lexS (n + d) l = (lexS n l).mv d := shift d n _ _ (Nat.le_refl _) (Nat.le_trans (sk_len l false) hn)
/-- LexJoins. -/
theorem lex_joins (s t : List UInt8) (a b : List T) (hs : lex s = .ok a) (ht : lex t = .ok b) : lex (s ++ 10 :: t) = .ok (a.dropLast ++ b.map (mv (s.length + 1))) := by
  unfold lex at hs ht ⊢
  have e : (s ++ 10 :: t).length = s.length + 1 + t.length := by simp; omega
  rw [e, joins s.length t.length t rfl _ s a (Nat.le_refl _) (Nat.le_refl _) hs, Nat.add_comm (s.length + 1) t.length, shiftS _ _ _ (Nat.le_refl _), ht]
  rfl
end Go.Proofs.YtikbgkndfmcfhaaDoor.LxM
