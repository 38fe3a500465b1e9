/- Tokens of a script, plain: what the document says of lex.Lex, as functions of the bytes. No program is named. -/
import Derived.Lib.Hide
set_option linter.unusedVariables false
namespace Go.Proofs.YtikbgkndfmcfhaaDoor.LxM
/-- A token: kind, text, number, place. -/
structure T where
  kind : Int
  text : List UInt8
  n : Int
  at_ : Nat
deriving DecidableEq
/-- Bytes by number; -1 is none. -/
def dg (b : Int) : Bool := decide (48 ≤ b) && decide (b ≤ 57)
def lt (b : Int) : Bool := ((decide (97 ≤ b) && decide (b ≤ 122)) || (decide (65 ≤ b) && decide (b ≤ 90))) || decide (b = 95)
def wd (b : Int) : Bool := lt b || dg b
def bl (b : Int) : Bool := ((decide (b = 32) || decide (b = 9)) || decide (b = 10)) || decide (b = 13)
def hx (b : Int) : Int := if dg b then b - 48 else if decide (97 ≤ b) && decide (b ≤ 102) then b - 87 else if decide (65 ≤ b) && decide (b ≤ 70) then b - 55 else -1
def i (c : UInt8) : Int := (c.toNat : Int)
/-- The first byte's number, or none. -/
def hd : List UInt8 → Int
  | [] => -1
  | c :: _ => i c
/-- Behind blanks and remarks; m: within a remark. -/
def sk : Bool → List UInt8 → List UInt8
  | _, [] => []
  | true, c :: r => if c = 10 then sk false r else sk true r
  | false, c :: r => if bl (i c) then sk false r else if c = 45 ∧ hd r = 45 then sk true r else c :: r
theorem sk_len : ∀ (l : List UInt8) (m : Bool), (sk m l).length ≤ l.length
  | [], m => by cases m <;> simp [sk]
  | c :: r, true => by
    rw [sk]
    split
    · have := sk_len r false; simp; omega
    · have := sk_len r true; simp; omega
  | c :: r, false => by
    rw [sk]
    split
    · have := sk_len r false; simp; omega
    · split
      · have := sk_len r true; simp; omega
      · exact Nat.le_refl _
/-- What stands between marks, and what is behind; none: it is wrong. -/
def qt (m : UInt8) : List UInt8 → Option (List UInt8 × List UInt8)
  | [] => none
  | c :: r =>
    if c = m then some ([], r)
    else if c = 10 then none
    else if c = 92 then
      match r with
      | [] => none
      | e :: r1 =>
        if e = 110 then (qt m r1).map fun x => (10 :: x.1, x.2)
        else if e = 116 then (qt m r1).map fun x => (9 :: x.1, x.2)
        else if e = 92 ∨ e = 34 ∨ e = 39 then (qt m r1).map fun x => (e :: x.1, x.2)
        else if e = 120 then
          match r1 with
          | a :: b :: r2 => if hx (i a) = -1 ∨ hx (i b) = -1 then none else (qt m r2).map fun x => (UInt8.ofNat (hx (i a) * 16 + hx (i b)).toNat :: x.1, x.2)
          | _ => none
        else none
    else (qt m r).map fun x => (c :: x.1, x.2)
/-- A text of at most 4096 bytes. -/
def qs (m : UInt8) (l : List UInt8) : Option (List UInt8 × List UInt8) := (qt m l).filter fun x => decide (x.1.length ≤ 4096)
/-- A numeral's number. -/
def step (n : Nat) (c : UInt8) : Nat := n * 10 + (c.toNat - 48)
def val (acc : Nat) (l : List UInt8) : Nat := l.foldl step acc
theorem val_nil (acc : Nat) : val acc [] = acc := List.foldl_nil
theorem val_cons (acc : Nat) (c : UInt8) (r : List UInt8) : val acc (c :: r) = val (step acc c) r := List.foldl_cons ..
theorem val_cons' (acc : Nat) (c : UInt8) (r : List UInt8) : val acc (c :: r) = val (acc * 10 + (c.toNat - 48)) r := val_cons acc c r
def num (l : List UInt8) : Option Int := if l.all (fun c => dg (i c)) then (if val 0 l < 9223372036854775808 then some (val 0 l : Int) else none) else none
/-- The reserved words; the signs of two bytes, of one. -/
def words : List (List UInt8) := [[97, 110, 100], [98, 114, 101, 97, 107], [100, 111], [101, 108, 115, 101], [101, 108, 115, 101, 105, 102], [101, 110, 100], [102, 97, 108, 115, 101], [102, 111, 114], [102, 117, 110, 99, 116, 105, 111, 110], [105, 102], [105, 110], [108, 111, 99, 97, 108], [110, 105, 108], [110, 111, 116], [111, 114], [114, 101, 112, 101, 97, 116], [114, 101, 116, 117, 114, 110], [116, 104, 101, 110], [116, 114, 117, 101], [117, 110, 116, 105, 108], [119, 104, 105, 108, 101]]
def twos : List (List UInt8) := [[46, 46], [61, 61], [126, 61], [60, 61], [62, 61], [47, 47]]
def ones : List (List UInt8) := [[43], [45], [42], [37], [60], [62], [61], [40], [41], [123], [125], [91], [93], [44], [46], [35], [59]]
def isWord (l : List UInt8) : Bool := words.contains l
def isSign (l : List UInt8) : Bool := (twos ++ ones).contains l
/-- Is a text a name? -/
def isName (l : List UInt8) : Bool := decide (1 ≤ l.length) && decide (l.length ≤ 32) && lt (hd l) && l.all (fun c => wd (i c)) && !isWord l
def wdb (c : UInt8) : Bool := wd (i c)
/-- The token that stands ahead (its place is set later), and what is behind it; none: it is wrong. -/
def tkW (l : List UInt8) : Option (T × List UInt8) :=
  if (l.takeWhile wdb).length ≤ 32 then some (⟨if isWord (l.takeWhile wdb) then 1 else 2, l.takeWhile wdb, 0, 0⟩, l.dropWhile wdb) else none
def tkN (l : List UInt8) : Option (T × List UInt8) := (num (l.takeWhile wdb)).map fun v => (⟨3, [], v, 0⟩, l.dropWhile wdb)
def tkQ (m : UInt8) (r : List UInt8) : Option (T × List UInt8) := (qs m r).map fun x => (⟨4, x.1, 0, 0⟩, x.2)
def tkS (l : List UInt8) : Option (T × List UInt8) :=
  if 2 ≤ l.length ∧ isSign (l.take 2) = true then some (⟨5, l.take 2, 0, 0⟩, l.drop 2) else if isSign (l.take 1) = true then some (⟨5, l.take 1, 0, 0⟩, l.drop 1) else none
def tk : List UInt8 → Option (T × List UInt8)
  | [] => none
  | c :: r =>
    if lt (i c) then tkW (c :: r)
    else if dg (i c) then tkN (c :: r)
    else if c = 34 ∨ c = 39 then tkQ c r
    else tkS (c :: r)
/-- An answer: the tokens, or the place of the first wrong one. -/
inductive Ans
  | ok (l : List T)
  | bad (at_ : Nat)
def Ans.pre (k : List T) : Ans → Ans
  | .ok l => .ok (k ++ l)
  | .bad p => .bad p
theorem Ans.pre_pre (a b : List T) (x : Ans) : Ans.pre a (Ans.pre b x) = Ans.pre (a ++ b) x := by cases x <;> simp [Ans.pre]
theorem Ans.pre_nil (x : Ans) : Ans.pre [] x = x := by cases x <;> rfl
/-- The tokens of a text of n bytes from l on, which does not begin with a blank. -/
def lexT (n : Nat) (l : List UInt8) : Ans :=
  match l with
  | [] => .ok [⟨0, [], 0, n⟩]
  | c :: r =>
    match tk (c :: r) with
    | none => .bad (n - (r.length + 1))
    | some (t, r1) => if h : (sk false r1).length < (c :: r).length then (lexT n (sk false r1)).pre [{ t with at_ := n - (r.length + 1) }] else .bad 0
termination_by l.length
def lexS (n : Nat) (l : List UInt8) : Ans := lexT n (sk false l)
def lex (l : List UInt8) : Ans := lexS l.length l
theorem lexT_nil (n : Nat) : lexT n [] = .ok [⟨0, [], 0, n⟩] := by rw [lexT]
theorem lexT_bad (n : Nat) (l : List UInt8) (hl : l ≠ []) (h : tk l = none) : lexT n l = .bad (n - l.length) := by
  cases l with
  | nil => exact absurd rfl hl
  | cons c r => rw [lexT]; simp only [h]; rfl
theorem dropWhile_len (p : UInt8 → Bool) (l : List UInt8) : (l.dropWhile p).length ≤ l.length := by
  induction l with
  | nil => simp
  | cons c r ih => rw [List.dropWhile_cons]; split <;> simp <;> omega
theorem qt_len (m : UInt8) : ∀ (n : Nat) (l : List UInt8) (o r : List UInt8), l.length ≤ n → qt m l = some (o, r) → r.length < l.length := by
  intro n
  induction n with
  | zero => intro l o r h e; cases l with
    | nil => simp [qt] at e
    | cons c r => simp at h
  | succ n ih =>
    intro l o r h e
    have up : ∀ (l1 : List UInt8) (f : List UInt8 → List UInt8), l1.length ≤ n → (qt m l1).map (fun x => (f x.1, x.2)) = some (o, r) → r.length < l1.length := by
      intro l1 f h1 h2
      rw [Option.map_eq_some_iff] at h2
      obtain ⟨x, hx, he⟩ := h2
      injection he with _ he
      subst he
      exact ih l1 x.1 x.2 h1 hx
    cases l with
    | nil => simp [qt] at e
    | cons c r0 =>
      simp only [List.length_cons] at h ⊢
      rw [qt.eq_def] at e
      dsimp only at e
      split at e
      · injection e with e; injection e with _ e; subst e; omega
      · split at e
        · cases e
        · split at e
          · cases r0 with
            | nil => cases e
            | cons x r1 =>
              simp only [List.length_cons] at h ⊢
              dsimp only at e
              split at e
              · have := up r1 (10 :: ·) (by omega) e; omega
              · split at e
                · have := up r1 (9 :: ·) (by omega) e; omega
                · split at e
                  · have := up r1 (x :: ·) (by omega) e; omega
                  · split at e
                    · cases r1 with
                      | nil => cases e
                      | cons a r2 => cases r2 with
                        | nil => cases e
                        | cons b r3 =>
                          simp only [List.length_cons] at h ⊢
                          dsimp only at e
                          split at e
                          · cases e
                          · have := up r3 (UInt8.ofNat (hx (i a) * 16 + hx (i b)).toNat :: ·) (by omega) e; omega
                    · cases e
          · have := up r0 (c :: ·) (by omega) e; omega
theorem wd_lt {b : Int} (h : lt b = true) : wd b = true := by simp [wd, h]
theorem wd_dg {b : Int} (h : dg b = true) : wd b = true := by simp [wd, h]
theorem tk_len {l : List UInt8} {t : T} {r : List UInt8} (h : tk l = some (t, r)) : r.length < l.length := by
  cases l with
  | nil => cases h
  | cons c r0 =>
    unfold tk at h
    dsimp only at h
    split at h
    · rename_i k
      unfold tkW at h
      split at h
      · injection h with h; injection h with _ h; subst h
        rw [List.dropWhile_cons, if_pos (show wdb c = true from wd_lt k)]
        have := dropWhile_len wdb r0; simp; omega
      · cases h
    · split at h
      · rename_i k
        unfold tkN at h
        rw [Option.map_eq_some_iff] at h
        obtain ⟨x, _, he⟩ := h
        injection he with _ he; subst he
        rw [List.dropWhile_cons, if_pos (show wdb c = true from wd_dg k)]
        have := dropWhile_len wdb r0; simp; omega
      · split at h
        · unfold tkQ qs at h
          rw [Option.map_eq_some_iff] at h
          obtain ⟨x, hx, he⟩ := h
          injection he with _ he; subst he
          rw [Option.filter_eq_some_iff] at hx
          have := qt_len c _ r0 x.1 x.2 (Nat.le_refl _) hx.1
          simp; omega
        · unfold tkS at h
          split at h
          · rename_i k; injection h with h; injection h with _ h; subst h; simp at k ⊢; omega
          · split at h
            · injection h with h; injection h with _ h; subst h; simp
            · cases h
theorem lexT_ok (n : Nat) (l : List UInt8) (t : T) (r : List UInt8) (h : tk l = some (t, r)) : lexT n l = (lexS n r).pre [{ t with at_ := n - l.length }] := by
  cases l with
  | nil => cases h
  | cons c r0 =>
    have hlt := tk_len h
    rw [lexT]
    simp only [h]
    rw [dif_pos (Nat.lt_of_le_of_lt (sk_len r false) hlt)]
    rfl
end Go.Proofs.YtikbgkndfmcfhaaDoor.LxM
