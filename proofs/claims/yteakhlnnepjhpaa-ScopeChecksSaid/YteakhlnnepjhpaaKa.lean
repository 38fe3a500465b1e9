/- Texts of one proof behind one another: Addr, LxM, Bytes, Frame, LxG, LxA1, LxU1, LxU2, LxU3, LxU5. -/
import Derived.Test.YteakhlnnepjhpaaRows
import Derived.WalkKit
import Derived.Lib.Hide
import Derived.WalkSpells
import Derived.WalkLawsBesides
import Derived.Laws.AppendOwnNone
import Derived.Laws.BytesArg
import Derived.OwnWalk
import Derived.Maps.AppendAt
import Derived.BigQuiet
import Derived.Laws.AppendOwn
import Derived.Laws.ResultCell
import Derived.Laws.Rows
import Derived.Laws.Tables
/- Addresses moved on. -/
namespace Go.Proofs.Yteakhlnnepjhpaa
open Go.RowKit

theorem add_block (p : Addr) (i : Nat) : (p.add i).block = p.block := by
 unfold Addr.add
 split <;> rfl
theorem add_add (p : Addr) (i j : Nat) : (p.add i).add j = p.add (i + j) := by
 by_cases a : i = 0
 ·subst a; simp [Addr.add]
 ·by_cases b : j = 0
  ·subst b; simp [Addr.add]
  ·simp [Addr.add, a, b, Nat.add_assoc]
end Go.Proofs.Yteakhlnnepjhpaa
/- Tokens of a script, plain: what the document says of lex.Lex, as functions of the bytes. No program is named. -/
set_option linter.unusedVariables false
namespace Go.Proofs.Yteakhlnnepjhpaa.LxM
/-- A token: kind, text, number, place. -/
structure T where
 kind : Int
 text : List UInt8
 n : Int
 at_ : Nat
deriving DecidableEq
/-- Bytes by number; -1 is none. -/
def dg (b : Int) : Bool := decide (48 ≤ b) && decide (b ≤ 57)
def lt (b : Int) : Bool := ((decide (97 ≤ b) && decide (b ≤ 122)) || (decide (65 ≤ b) && decide (b ≤ 90))) || decide (b = 95)
def wd (b : Int) : Bool := lt b || dg b
def bl (b : Int) : Bool := ((decide (b = 32) || decide (b = 9)) || decide (b = 10)) || decide (b = 13)
def hx (b : Int) : Int := if dg b then b - 48 else if decide (97 ≤ b) && decide (b ≤ 102) then b - 87 else if decide (65 ≤ b) && decide (b ≤ 70) then b - 55 else -1
def i (c : UInt8) : Int := (c.toNat : Int)
/-- The first byte's number, or none. -/
def hd : List UInt8 → Int
 | [] => -1
 | c :: _ => i c
/-- Behind blanks and remarks; m: within a remark. -/
def sk : Bool → List UInt8 → List UInt8
 | _, [] => []
 | true, c :: r => if c = 10 then sk false r else sk true r
 | false, c :: r => if bl (i c) then sk false r else if c = 45 ∧ hd r = 45 then sk true r else c :: r
theorem sk_len : ∀ (l : List UInt8) (m : Bool), (sk m l).length ≤ l.length
 | [], m => by cases m <;> simp [sk]
 | c :: r, true => by
  rw [sk]
  split
  ·have := sk_len r false; simp; omega
  ·have := sk_len r true; simp; omega
 | c :: r, false => by
  rw [sk]
  split
  ·have := sk_len r false; simp; omega
  ·split
   ·have := sk_len r true; simp; omega
   ·exact Nat.le_refl _
/-- What stands between marks, and what is behind; none: it is wrong. -/
def qt (m : UInt8) : List UInt8 → Option (List UInt8 × List UInt8)
 | [] => none
 | c :: r =>
  if c = m then some ([], r)
  else if c = 10 then none
  else if c = 92 then
   match r with
   | [] => none
   | e :: r1 =>
    if e = 110 then (qt m r1).map fun x => (10 :: x.1, x.2)
    else if e = 116 then (qt m r1).map fun x => (9 :: x.1, x.2)
    else if e = 92 ∨ e = 34 ∨ e = 39 then (qt m r1).map fun x => (e :: x.1, x.2)
    else if e = 120 then
     match r1 with
     | a :: b :: r2 => if hx (i a) = -1 ∨ hx (i b) = -1 then none else (qt m r2).map fun x => (UInt8.ofNat (hx (i a) * 16 + hx (i b)).toNat :: x.1, x.2)
     | _ => none
    else none
  else (qt m r).map fun x => (c :: x.1, x.2)
/-- A text of at most 4096 bytes. -/
def qs (m : UInt8) (l : List UInt8) : Option (List UInt8 × List UInt8) := (qt m l).filter fun x => decide (x.1.length ≤ 4096)
/-- A numeral's number. -/
def step (n : Nat) (c : UInt8) : Nat := n * 10 + (c.toNat - 48)
def val (acc : Nat) (l : List UInt8) : Nat := l.foldl step acc
theorem val_nil (acc : Nat) : val acc [] = acc := List.foldl_nil
theorem val_cons (acc : Nat) (c : UInt8) (r : List UInt8) : val acc (c :: r) = val (step acc c) r := List.foldl_cons ..
theorem val_cons' (acc : Nat) (c : UInt8) (r : List UInt8) : val acc (c :: r) = val (acc * 10 + (c.toNat - 48)) r := val_cons acc c r
def num (l : List UInt8) : Option Int := if l.all (fun c => dg (i c)) then (if val 0 l < 9223372036854775808 then some (val 0 l : Int) else none) else none
/-- The reserved words; the signs of two bytes, of one. -/
def words : List (List UInt8) := [[97, 110, 100], [98, 114, 101, 97, 107], [100, 111], [101, 108, 115, 101], [101, 108, 115, 101, 105, 102], [101, 110, 100], [102, 97, 108, 115, 101], [102, 111, 114], [102, 117, 110, 99, 116, 105, 111, 110], [105, 102], [105, 110], [108, 111, 99, 97, 108], [110, 105, 108], [110, 111, 116], [111, 114], [114, 101, 112, 101, 97, 116], [114, 101, 116, 117, 114, 110], [116, 104, 101, 110], [116, 114, 117, 101], [117, 110, 116, 105, 108], [119, 104, 105, 108, 101]]
def twos : List (List UInt8) := [[46, 46], [61, 61], [126, 61], [60, 61], [62, 61], [47, 47]]
def ones : List (List UInt8) := [[43], [45], [42], [37], [60], [62], [61], [40], [41], [123], [125], [91], [93], [44], [46], [35], [59]]
def isWord (l : List UInt8) : Bool := words.contains l
def isSign (l : List UInt8) : Bool := (twos ++ ones).contains l
/-- Is a text a name? -/
def isName (l : List UInt8) : Bool := decide (1 ≤ l.length) && decide (l.length ≤ 32) && lt (hd l) && l.all (fun c => wd (i c)) && !isWord l
def wdb (c : UInt8) : Bool := wd (i c)
/-- The token that stands ahead (its place is set later), and what is behind it; none: it is wrong. -/
def tkW (l : List UInt8) : Option (T × List UInt8) :=
 if (l.takeWhile wdb).length ≤ 32 then some (⟨if isWord (l.takeWhile wdb) then 1 else 2, l.takeWhile wdb, 0, 0⟩, l.dropWhile wdb) else none
def tkN (l : List UInt8) : Option (T × List UInt8) := (num (l.takeWhile wdb)).map fun v => (⟨3, [], v, 0⟩, l.dropWhile wdb)
def tkQ (m : UInt8) (r : List UInt8) : Option (T × List UInt8) := (qs m r).map fun x => (⟨4, x.1, 0, 0⟩, x.2)
def tkS (l : List UInt8) : Option (T × List UInt8) :=
 if 2 ≤ l.length ∧ isSign (l.take 2) = true then some (⟨5, l.take 2, 0, 0⟩, l.drop 2) else if isSign (l.take 1) = true then some (⟨5, l.take 1, 0, 0⟩, l.drop 1) else none
def tk : List UInt8 → Option (T × List UInt8)
 | [] => none
 | c :: r =>
  if lt (i c) then tkW (c :: r)
  else if dg (i c) then tkN (c :: r)
  else if c = 34 ∨ c = 39 then tkQ c r
  else tkS (c :: r)
/-- An answer: the tokens, or the place of the first wrong one. -/
inductive Ans
 | ok (l : List T)
 | bad (at_ : Nat)
def Ans.pre (k : List T) : Ans → Ans
 | .ok l => .ok (k ++ l)
 | .bad p => .bad p
theorem Ans.pre_pre (a b : List T) (x : Ans) : Ans.pre a (Ans.pre b x) = Ans.pre (a ++ b) x := by cases x <;> simp [Ans.pre]
theorem Ans.pre_nil (x : Ans) : Ans.pre [] x = x := by cases x <;> rfl
/-- The tokens of a text of n bytes from l on, which does not begin with a blank. -/
def lexT (n : Nat) (l : List UInt8) : Ans :=
 match l with
 | [] => .ok [⟨0, [], 0, n⟩]
 | c :: r =>
  match tk (c :: r) with
  | none => .bad (n - (r.length + 1))
  | some (t, r1) => if h : (sk false r1).length < (c :: r).length then (lexT n (sk false r1)).pre [{ t with at_ := n - (r.length + 1) }] else .bad 0
termination_by l.length
def lexS (n : Nat) (l : List UInt8) : Ans := lexT n (sk false l)
def lex (l : List UInt8) : Ans := lexS l.length l
theorem lexT_nil (n : Nat) : lexT n [] = .ok [⟨0, [], 0, n⟩] := by rw [lexT]
theorem lexT_bad (n : Nat) (l : List UInt8) (hl : l ≠ []) (h : tk l = none) : lexT n l = .bad (n - l.length) := by
 cases l with
 | nil => exact absurd rfl hl
 | cons c r => rw [lexT]; simp only [h]; rfl
theorem dropWhile_len (p : UInt8 → Bool) (l : List UInt8) : (l.dropWhile p).length ≤ l.length := by
 induction l with
 | nil => simp
 | cons c r ih => rw [List.dropWhile_cons]; split <;> simp <;> omega
theorem qt_len (m : UInt8) : ∀ (n : Nat) (l : List UInt8) (o r : List UInt8), l.length ≤ n → qt m l = some (o, r) → r.length < l.length := by
 intro n
 induction n with
 | zero => intro l o r h e; cases l with
  | nil => simp [qt] at e
  | cons c r => simp at h
 | succ n ih =>
  intro l o r h e
  have up : ∀ (l1 : List UInt8) (f : List UInt8 → List UInt8), l1.length ≤ n → (qt m l1).map (fun x => (f x.1, x.2)) = some (o, r) → r.length < l1.length := by
   intro l1 f h1 h2
   rw [Option.map_eq_some_iff] at h2
   obtain ⟨x, hx, he⟩ := h2
   injection he with _ he
   subst he
   exact ih l1 x.1 x.2 h1 hx
  cases l with
  | nil => simp [qt] at e
  | cons c r0 =>
   simp only [List.length_cons] at h ⊢
   rw [qt.eq_def] at e
   dsimp only at e
   split at e
   ·injection e with e; injection e with _ e; subst e; omega
   ·split at e
    ·cases e
    ·split at e
     ·cases r0 with
      | nil => cases e
      | cons x r1 =>
       simp only [List.length_cons] at h ⊢
       dsimp only at e
       split at e
       ·have := up r1 (10 :: ·) (by omega) e; omega
       ·split at e
        ·have := up r1 (9 :: ·) (by omega) e; omega
        ·split at e
         ·have := up r1 (x :: ·) (by omega) e; omega
         ·split at e
          ·cases r1 with
           | nil => cases e
           | cons a r2 => cases r2 with
            | nil => cases e
            | cons b r3 =>
             simp only [List.length_cons] at h ⊢
             dsimp only at e
             split at e
             ·cases e
             ·have := up r3 (UInt8.ofNat (hx (i a) * 16 + hx (i b)).toNat :: ·) (by omega) e; omega
          ·cases e
     ·have := up r0 (c :: ·) (by omega) e; omega
theorem wd_lt {b : Int} (h : lt b = true) : wd b = true := by simp [wd, h]
theorem wd_dg {b : Int} (h : dg b = true) : wd b = true := by simp [wd, h]
theorem tk_len {l : List UInt8} {t : T} {r : List UInt8} (h : tk l = some (t, r)) : r.length < l.length := by
 cases l with
 | nil => cases h
 | cons c r0 =>
  unfold tk at h
  dsimp only at h
  split at h
  ·rename_i k
   unfold tkW at h
   split at h
   ·injection h with h; injection h with _ h; subst h
    rw [List.dropWhile_cons, if_pos (show wdb c = true from wd_lt k)]
    have := dropWhile_len wdb r0; simp; omega
   ·cases h
  ·split at h
   ·rename_i k
    unfold tkN at h
    rw [Option.map_eq_some_iff] at h
    obtain ⟨x, _, he⟩ := h
    injection he with _ he; subst he
    rw [List.dropWhile_cons, if_pos (show wdb c = true from wd_dg k)]
    have := dropWhile_len wdb r0; simp; omega
   ·split at h
    ·unfold tkQ qs at h
     rw [Option.map_eq_some_iff] at h
     obtain ⟨x, hx, he⟩ := h
     injection he with _ he; subst he
     rw [Option.filter_eq_some_iff] at hx
     have := qt_len c _ r0 x.1 x.2 (Nat.le_refl _) hx.1
     simp; omega
    ·unfold tkS at h
     split at h
     ·rename_i k; injection h with h; injection h with _ h; subst h; simp at k ⊢; omega
     ·split at h
      ·injection h with h; injection h with _ h; subst h; simp
      ·cases h
theorem lexT_ok (n : Nat) (l : List UInt8) (t : T) (r : List UInt8) (h : tk l = some (t, r)) : lexT n l = (lexS n r).pre [{ t with at_ := n - l.length }] := by
 cases l with
 | nil => cases h
 | cons c r0 =>
  have hlt := tk_len h
  rw [lexT]
  simp only [h]
  rw [dif_pos (Nat.lt_of_le_of_lt (sk_len r false) hlt)]
  rfl
end Go.Proofs.Yteakhlnnepjhpaa.LxM
/- A slice of bytes that reads as a list, nil let in. -/
namespace Go.Proofs.Yteakhlnnepjhpaa
open Go.RowKit

/-- The slice that starts at A reads as the bytes l, and lies below block B. -/
def Bs (w : World) (B : Nat) (A : Option Addr) (l : List UInt8) : Prop :=
 ∀ i (h : i < l.length), ∃ p : Addr, A = some p ∧ p.block < B ∧ w.cell? (p.add i) = some (.int .u8 (l[i].toNat : Int))
section
variable {w w' : World} {B B' : Nat} {A : Option Addr} {l : List UInt8}
theorem Bs.empty : Bs w B A [] := fun i h => absurd h (by simp)
theorem Bs.same (h : Bs w B A l) (k : ∀ p : Addr, p.block < B → w'.cell? p = w.cell? p) : Bs w' B A l := fun i hi => by
 obtain ⟨p, e, hb, hc⟩ := h i hi
 exact ⟨p, e, hb, by rw [k _ (by rw [add_block]; exact hb), hc]⟩
theorem Bs.up (h : Bs w B A l) (hB : B ≤ B') : Bs w B' A l := fun i hi => by
 obtain ⟨p, e, hb, hc⟩ := h i hi
 exact ⟨p, e, Nat.lt_of_lt_of_le hb hB, hc⟩
theorem Bs.below (h : Bs w B A l) (hb : Below B w w') : Bs w' B A l := h.same fun _ hp => hb.cell hp
theorem Bs.front (h : Bs w B A l) (k : Nat) : Bs w B A (l.take k) := fun i hi => by
 have hi' : i < l.length := by rw [List.length_take] at hi; omega
 obtain ⟨p, e, hb, hc⟩ := h i hi'
 exact ⟨p, e, hb, by rw [hc]; simp⟩
end

/-- A byte as a value. -/
def bv (c : UInt8) : Value := .int .u8 (c.toNat : Int)
theorem bv_one (l : List UInt8) : ∀ u ∈ l.map bv, u.oneCell' = true := by
 intro u hu
 obtain ⟨c, _, rfl⟩ := List.mem_map.1 hu
 rfl
theorem info8 : (Try.prog.info? 5).map (fun i => (i.zero, i.size, i.bytes)) = some (some (.int .u8 0), 1, 1) := by kernel_rfl
theorem map_at {l : List UInt8} {j : Nat} {u : Value} (h : (l.map bv)[j]? = some u) : ∃ k : j < l.length, u = bv l[j] := by
 rw [List.getElem?_map] at h
 obtain ⟨c, hc, rfl⟩ := Option.map_eq_some_iff.1 h
 obtain ⟨k, rfl⟩ := List.getElem?_eq_some_iff.1 hc
 exact ⟨k, rfl⟩
/-- append of a slice of bytes, nil let in, onto a row of the call's own. -/
theorem wpList_append_bytes {w : World} {ops : Array Oper} {rest : List Oper} {o : Oper} {a : Act} {Q : Exit → Act → World → Prop} (hgd : o.guard = none) (s x : Operand)
  (ho : o.op = .call { callee := .builtin .append, args := #[s, x], argTypes := #[89, 89] })
  (base : Nat) (v : Value) (n : Nat) (xs : List Value) (hs : a.eval s = v) (hown : w.ownsRow base 5 1 v n xs)
  (B : Nat) (A : Option Addr) (c : Nat) (l : List UInt8) (hx : a.eval x = .slice A l.length c) (hA : A = none → c = 0) (hr : Bs w B A l)
  (h63 : n + l.length ≤ 4611686018427387904) (hbytes : n + l.length ≤ 140737488355328) (hbase : base ≤ w.heap.size)
  (h : ∀ v' w', w'.ownsRow base 5 1 v' (n + l.length) (xs ++ l.map bv) → w.grownBy w' v.ownBlock → (v'.ownBlock = v.ownBlock ∨ v'.ownBlock = some w.heap.size) → wpList Try.prog ops Q rest (a.put o.dst v') w') :
  wpList Try.prog ops Q (o :: rest) a w := by
 obtain ⟨i, hi, hz, h1, h2⟩ := info_parts info8
 cases A with
 | none =>
  have e : l = [] := by
   cases l with
   | nil => rfl
   | cons c r => obtain ⟨p, e, _⟩ := hr 0 (by simp); cases e
  subst e
  obtain rfl := hA rfl
  refine wpList_append_own_none hgd s x 89 ho base 5 i 1 Try.underlying89 hi v n xs hs hown hx ?_
  exact h v w (by simpa using hown) (World.grownBy.refl w _) (.inl rfl)
 | some p =>
  refine wpList_append_own_at w hgd s x 89 ho base 5 i _ 1 1 Try.underlying89 hi hz h1 h2 rfl (by decide) v n xs hs hown p l.length c (l.map bv) hx (by simp) (fun j u hu => ?_) (bv_one l) (by unfold maxLen; omega) (by omega) hbase fun v' w' g1 g2 _ g4 => h v' w' g1 g2 g4
  obtain ⟨k, rfl⟩ := map_at hu
  obtain ⟨q, e, _, hc⟩ := hr j k
  cases e
  exact hc
/-- The same, with what became of the world that was before the row's block. -/
theorem wpList_append_own_bytes {w : World} {ops : Array Oper} {rest : List Oper} {o : Oper} {a : Act} {Q : Exit → Act → World → Prop} (hgd : o.guard = none) (s x : Operand)
  (ho : o.op = .call { callee := .builtin .append, args := #[s, x], argTypes := #[89, 89] })
  (w0 : World) (v : Value) (k : List UInt8) (hs : a.eval s = v) (hown : w.ownsRow w0.heap.size 5 1 v k.length (k.map bv)) (hb : Below w0.heap.size w0 w)
  (A : Option Addr) (c : Nat) (l : List UInt8) (hx : a.eval x = .slice A l.length c) (hA : A = none → c = 0) (hr : Bs w0 w0.heap.size A l)
  (hlen : k.length + l.length ≤ 140737488355328)
  (h : ∀ v' w', w'.ownsRow w0.heap.size 5 1 v' (k ++ l).length ((k ++ l).map bv) → Below w0.heap.size w0 w' → wpList Try.prog ops Q rest (a.put o.dst v') w') :
  wpList Try.prog ops Q (o :: rest) a w := by
 refine wpList_append_bytes hgd s x ho w0.heap.size v k.length (k.map bv) hs hown w0.heap.size A c l hx hA (hr.below hb) (by omega) hlen hb.size fun v' w' h1 h2 _ => h v' w' (by simpa using h1) (hb.grown h2 hb.size fun j hj => (hown.lt j hj).1)
/-- A row of the call's own reads as its bytes. -/
theorem Bs.of_own {w : World} {base n : Nat} {v : Value} {l : List UInt8} (h : w.ownsRow base 5 1 v n (l.map bv)) : ∃ A c, v = .slice A l.length c ∧ n = l.length ∧ (A = none → c = 0) ∧ Bs w w.heap.size A l := by
 have hn : n = l.length := by have := h.1; simp at this; omega
 subst hn
 rcases h.2 with ⟨rfl, h0⟩ | ⟨g, cap, cur, rfl, hg, hb, hc, _, hs, ht⟩
 ·have e : l = [] := List.eq_nil_of_length_eq_zero h0
  subst e
  exact ⟨none, 0, rfl, rfl, fun _ => rfl, Bs.empty⟩
 ·refine ⟨_, cap, rfl, rfl, (fun e => nomatch e), fun i hi => ?_⟩
  have hlt : g < w.heap.size := by
   rcases Nat.lt_or_ge g w.heap.size with k | k
   ·exact k
   ·rw [Array.getElem?_eq_none k] at hb; cases hb
  refine ⟨_, rfl, hlt, ?_⟩
  have := h.cells (g := g) rfl i (bv l[i]) (by rw [List.getElem?_map, List.getElem?_eq_getElem hi]; rfl)
  exact this
theorem Bs.new (w : World) (C : Array Value) (t : TypeId) (fr : Nat × Nat) (l : List UInt8) (hC : C = (l.map bv).toArray) : Bs (w.alloc (.cells C t fr)) (w.heap.size + 1) (some ⟨w.heap.size, 0, none⟩) l := fun i hi => by
 subst hC
 refine ⟨_, rfl, Nat.lt_succ_self _, ?_⟩
 have e : (⟨w.heap.size, 0, none⟩ : Addr).add i = ⟨w.heap.size, i, none⟩ := by
  unfold Addr.add
  split
  ·rename_i h; rw [h]
  ·simp
 rw [e, World.cell?_alloc_mark]
 simp [bv, hi]
theorem Bs.later {w w' : World} {A : Option Addr} {l : List UInt8} (h : Bs w w.heap.size A l) (hb : Below w.heap.size w w') : Bs w' w'.heap.size A l := (h.below hb).up hb.size
theorem own_none (w : World) (t : TypeId) : (w.alloc (.cells #[] t)).ownsRow w.heap.size t 1 (.slice (some ⟨w.heap.size, 0, none⟩) 0 0) 0 [] :=
 ⟨rfl, .inr ⟨w.heap.size, 0, #[], rfl, Nat.le_refl _, by show (w.heap.push _)[w.heap.size]? = _; simp, Nat.le_refl _, Nat.zero_le _, rfl, rfl⟩⟩
theorem below_then {w a b : World} (h : Below w.heap.size w a) (k : Below a.heap.size a b) : Below w.heap.size w b := h.trans (k.mono h.size)
/-- A block of the call's own that is just the bytes l. -/
def Whole (w : World) (g : Nat) (l : List UInt8) : Prop := w.heap[g]? = some (.cells (l.map bv).toArray 5 (0, 0))
theorem Whole.lt {w : World} {g : Nat} {l : List UInt8} (h : Whole w g l) : g < w.heap.size := by
 rcases Nat.lt_or_ge g w.heap.size with k | k
 ·exact k
 ·unfold Whole at h; rw [Array.getElem?_eq_none k] at h; cases h
theorem Whole.cell {w : World} {g : Nat} {l : List UInt8} (h : Whole w g l) (i : Nat) (hi : i < l.length) : w.cell? ⟨g, i, none⟩ = some (.int .u8 (l[i].toNat : Int)) := by
 unfold Whole at h
 simp [World.cell?, h, bv, hi]
theorem Whole.free {w : World} {g : Nat} {l : List UInt8} (h : Whole w g l) (i : Nat) : w.frozen? ⟨g, i, none⟩ = false := by
 unfold Whole at h
 simp [World.frozen?, h]
theorem Whole.put {w : World} {g : Nat} {l : List UInt8} (h : Whole w g l) (i : Nat) (c : UInt8) : Whole (w.setCell ⟨g, i, none⟩ (.int .u8 (c.toNat : Int))) g (l.set i c) := by
 unfold Whole at h ⊢
 have e : ((l.map bv).toArray.setIfInBounds i (.int .u8 (c.toNat : Int))) = ((l.set i c).map bv).toArray := by
  rw [List.setIfInBounds_toArray, List.map_set]
  rfl
 simp [World.setCell, Array.getElem?_modify, h]
 rfl
theorem Whole.drew {w : World} {g : Nat} {l : List UInt8} (h : Whole w g l) : Whole w.drew g l := h
theorem Whole.below {w w' : World} {g B : Nat} {l : List UInt8} (h : Whole w g l) (hb : Below B w w') (hg : g < B) : Whole w' g l := (hb.block g hg).trans h
theorem Whole.new (w : World) (C : Array Value) (l : List UInt8) (hC : C = (l.map bv).toArray) : Whole (w.alloc (.cells C 5)) w.heap.size l := by
 subst hC
 show (w.heap.push _)[w.heap.size]? = _
 simp
theorem Whole.reads {w : World} {g : Nat} {l : List UInt8} (h : Whole w g l) : Bs w w.heap.size (some ⟨g, 0, none⟩) l := fun i hi => by
 refine ⟨_, rfl, h.lt, ?_⟩
 have e : (⟨g, 0, none⟩ : Addr).add i = ⟨g, i, none⟩ := by
  unfold Addr.add
  split
  ·rename_i h; rw [h]
  ·simp
 rw [e, h.cell i hi]
theorem b8_xor (x y : UInt8) : bits .xor .u8 (x.toNat : Int) (y.toNat : Int) = ((x ^^^ y).toNat : Int) := by
 rw [u8_xor _ _ (by omega) (by have := x.toNat_lt; omega) (by omega) (by have := y.toNat_lt; omega), UInt8.toNat_xor]
 simp
theorem made_bytes (n : Nat) (w : World) (hn : n ≤ 4194304) : (Instr.makeSlice 89 (.int .i64 (n : Int)) (.int .i64 (n : Int))).run Try.prog w = .ok (.slice (some ⟨w.heap.size, 0, none⟩) n n) (w.alloc (.cells ((List.replicate n (0 : UInt8)).map bv).toArray 5)) := by
 obtain ⟨i, hi, hz, h1, h2⟩ := info_parts info8
 have h := run_make (P := Try.prog) w 89 5 i _ Try.underlying89 hi hz .i64 .i64 (n : Int) (n : Int) (by omega) (Int.le_refl _) (by rw [h2]; omega) (by omega)
 have e : madeCells (Value.int .u8 0).cells (n * i.size) = ((List.replicate n (0 : UInt8)).map bv).toArray := by
  rw [h1]
  apply Array.ext
  ·simp [madeCells]
  ·intro j h1 h2
   simp [madeCells, bv, Value.cells, Nat.mod_one]
 have t : ((n : Int)).toNat = n := by omega
 rw [h, t, e]
/-- A block of the call's own whose first cells are the bytes l. -/
def Own (w : World) (g : Nat) (l : List UInt8) : Prop := ∃ cur : Array Value, w.heap[g]? = some (.cells cur 5 (0, 0)) ∧ ∀ i (h : i < l.length), cur[i]? = some (bv l[i])
theorem Own.lt {w : World} {g : Nat} {l : List UInt8} (h : Own w g l) : g < w.heap.size := by
 obtain ⟨cur, h, _⟩ := h
 rcases Nat.lt_or_ge g w.heap.size with k | k
 ·exact k
 ·rw [Array.getElem?_eq_none k] at h; cases h
theorem Own.cell {w : World} {g : Nat} {l : List UInt8} (h : Own w g l) (i : Nat) (hi : i < l.length) : w.cell? ⟨g, i, none⟩ = some (.int .u8 (l[i].toNat : Int)) := by
 obtain ⟨cur, h, hc⟩ := h
 have := hc i hi
 simp [World.cell?, h, this, bv]
theorem Own.free {w : World} {g : Nat} {l : List UInt8} (h : Own w g l) (i : Nat) : w.frozen? ⟨g, i, none⟩ = false := by
 obtain ⟨cur, h, _⟩ := h
 simp [World.frozen?, h]
theorem Own.put {w : World} {g : Nat} {l : List UInt8} (h : Own w g l) (i : Nat) (hi : i < l.length) (c : UInt8) : Own (w.setCell ⟨g, i, none⟩ (.int .u8 (c.toNat : Int))) g (l.set i c) := by
 obtain ⟨cur, h, hc⟩ := h
 refine ⟨cur.setIfInBounds i (bv c), by simp [World.setCell, Array.getElem?_modify, h, bv], fun j hj => ?_⟩
 have hj' : j < l.length := by simpa using hj
 have hi' : i < cur.size := by
  have := hc i hi
  rcases Nat.lt_or_ge i cur.size with k | k
  ·exact k
  ·rw [Array.getElem?_eq_none k] at this; cases this
 by_cases e : i = j
 ·subst e
  simp [hi']
 ·rw [Array.getElem?_setIfInBounds_ne e, hc j hj']
  simp [e]
theorem Own.drew {w : World} {g : Nat} {l : List UInt8} (h : Own w g l) : Own w.drew g l := h
theorem Own.below {w w' : World} {g B : Nat} {l : List UInt8} (h : Own w g l) (hb : Below B w w') (hg : g < B) : Own w' g l := by
 obtain ⟨cur, h, hc⟩ := h
 exact ⟨cur, (hb.block g hg).trans h, hc⟩
theorem Own.reads {w : World} {g : Nat} {l : List UInt8} (h : Own w g l) : Bs w w.heap.size (some ⟨g, 0, none⟩) l := fun i hi => by
 refine ⟨_, rfl, h.lt, ?_⟩
 have e : (⟨g, 0, none⟩ : Addr).add i = ⟨g, i, none⟩ := by
  unfold Addr.add
  split
  ·rename_i h; rw [h]
  ·simp
 rw [e, h.cell i hi]
theorem Own.of_row {w : World} {base n : Nat} {v : Value} {l : List UInt8} (h : w.ownsRow base 5 1 v n (l.map bv)) (hl : 1 ≤ l.length) : ∃ g c, v = .slice (some ⟨g, 0, none⟩) l.length c ∧ base ≤ g ∧ l.length ≤ c ∧ Own w g l := by
 have hn : n = l.length := by have := h.1; simp at this; omega
 subst hn
 rcases h.2 with ⟨rfl, h0⟩ | ⟨g, cap, cur, rfl, hg, hb, hc, _, hs, ht⟩
 ·omega
 ·refine ⟨g, cap, rfl, hg, hc, cur, hb, fun i hi => ?_⟩
  have := congrArg (fun x => x[i]?) ht
  simp [hi] at this
  rw [← this]
/-- string(b). -/
theorem convert_bs {w : World} {B : Nat} {A : Option Addr} {l : List UInt8} (c : Nat) (h : Bs w B A l) : (convert 89 9 (.slice A l.length c)).run Try.prog w = .ok (.string ⟨l.toArray⟩) w := by
 cases A with
 | none =>
  have e : l = [] := by
   cases l with
   | nil => rfl
   | cons c r => obtain ⟨p, e, _⟩ := h 0 (by simp); cases e
  subst e
  exact run_convert_bytes_nil w 89 5 Try.underlying89 Try.underlying5 _ _ _ Try.underlying9
 | some p =>
  have hl : (loadCells p l.length).run Try.prog w = .ok (l.map bv).toArray w := by
   have := run_loadCells_list (P := Try.prog) w p (l.map bv) (fun j u hu => by
    obtain ⟨k, rfl⟩ := map_at hu
    obtain ⟨q, e, _, hc⟩ := h j k
    cases e
    exact hc)
   simpa using this
  have e : l.map bv = (l.map fun c => (c.toNat : Int)).map (Value.int .u8) := by
   rw [List.map_map]; rfl
  rw [e] at hl
  rw [run_convert_bytes_string w 89 9 5 _ _ c Try.underlying89 Try.underlying5 Try.underlying9, run_bytesToString w _ _ c _ hl, foldl_push_bytes]
  have k : (l.map fun c => (c.toNat : Int)).map (fun n => UInt8.ofNat n.toNat) = l := by
   rw [List.map_map]
   conv => rhs; rw [← List.map_id l]
   exact List.map_congr_left fun c _ => by simp
  rw [k]
  simp [ByteArray.empty, ByteArray.emptyWithCapacity]
  rfl
theorem convert_n {w : World} {B : Nat} {A : Option Addr} {l : List UInt8} (c n : Nat) (hn : l.length = n) (h : Bs w B A l) : (convert 89 9 (.slice A n c)).run Try.prog w = .ok (.string ⟨l.toArray⟩) w := by
 subst hn
 exact convert_bs c h
/-- v is a slice of bytes that reads as l. -/
def IsBytes (w : World) (v : Value) (l : List UInt8) : Prop := ∃ A c, v = .slice A l.length c ∧ (A = none → c = 0) ∧ l.length ≤ c ∧ Bs w w.heap.size A l
theorem IsBytes.later {w w' : World} {v : Value} {l : List UInt8} (h : IsBytes w v l) (hb : Below w.heap.size w w') : IsBytes w' v l := by
 obtain ⟨A, c, e, hA, hc, hr⟩ := h
 exact ⟨A, c, e, hA, hc, hr.later hb⟩
theorem mod_len (t : Int) (n : Nat) (hn : n ≤ 4096) : ∃ k : Nat, k ≤ n ∧ wrap64 ((IntKind.u64.wrap t).tmod ((n : Int) + 1)) = (k : Int) := by
 have h : 0 ≤ IntKind.u64.wrap t := by rw [IntKind.wrap_u64]; omega
 rw [Int.tmod_eq_emod_of_nonneg h]
 have p := Int.emod_lt_of_pos (IntKind.u64.wrap t) (show (0 : Int) < (n : Int) + 1 by omega)
 have q := Int.emod_nonneg (IntKind.u64.wrap t) (show ((n : Int) + 1) ≠ 0 by omega)
 exact ⟨(IntKind.u64.wrap t % ((n : Int) + 1)).toNat, by omega, by unfold wrap64; omega⟩
theorem mod_lt (t : Int) (n : Nat) (hn : 0 < n) (hb : n ≤ 1048576) : ∃ k : Nat, k < n ∧ wrap64 ((IntKind.u64.wrap t).tmod (n : Int)) = (k : Int) := by
 have h : 0 ≤ IntKind.u64.wrap t := by rw [IntKind.wrap_u64]; omega
 rw [Int.tmod_eq_emod_of_nonneg h]
 have p := Int.emod_lt_of_pos (IntKind.u64.wrap t) (show (0 : Int) < (n : Int) by omega)
 have q := Int.emod_nonneg (IntKind.u64.wrap t) (show (n : Int) ≠ 0 by omega)
 exact ⟨(IntKind.u64.wrap t % (n : Int)).toNat, by omega, by unfold wrap64; omega⟩
end Go.Proofs.Yteakhlnnepjhpaa
/- Frames: only some blocks of the old memory may have been turned. -/
namespace Go.Proofs.Yteakhlnnepjhpaa
open Go.RowKit

/-- Of the blocks that were there only those of F may have been turned. -/
structure Only (F : Nat → Prop) (w w' : World) : Prop where
 os : w'.os = w.os
 tape : w'.tape = w.tape
 output : w'.output = w.output
 size : w.heap.size ≤ w'.heap.size
 block : ∀ k, k < w.heap.size → ¬ F k → w'.heap[k]? = w.heap[k]?
theorem Only.refl (F : Nat → Prop) (w : World) : Only F w w := ⟨rfl, rfl, rfl, Nat.le_refl _, fun _ _ _ => rfl⟩
theorem Only.trans {F G : Nat → Prop} {a b c : World} (h : Only F a b) (k : Only G b c) (s : ∀ n, G n → F n ∨ a.heap.size ≤ n) : Only F a c :=
 ⟨k.os.trans h.os, k.tape.trans h.tape, k.output.trans h.output, Nat.le_trans h.size k.size, fun n hn hf => by
  rw [k.block n (Nat.lt_of_lt_of_le hn h.size) (fun g => by rcases s n g with x | x; exact hf x; omega), h.block n hn hf]⟩
theorem Only.of_below {F : Nat → Prop} {w w' : World} (h : Below w.heap.size w w') : Only F w w' := ⟨h.os, h.tape, h.output, h.size, fun k hk _ => h.block k hk⟩
theorem Only.below {F : Nat → Prop} {w w' : World} {B : Nat} (h : Only F w w') (s : ∀ n, F n → B ≤ n) (hB : B ≤ w.heap.size) : Below B w w' :=
 ⟨h.os, h.tape, h.output, h.size, fun k hk => h.block k (by omega) (fun f => by have := s k f; omega)⟩
theorem Only.alloc {F : Nat → Prop} {a w : World} (h : Only F a w) (o : Obj) : Only F a (w.alloc o) :=
 h.trans (Only.of_below (F := fun _ => False) ((Below.refl _ w).alloc (Nat.le_refl _) o)) (fun _ f => f.elim)
theorem Only.setCell {F : Nat → Prop} {a w : World} (h : Only F a w) {p : Addr} (hp : F p.block ∨ a.heap.size ≤ p.block) (u : Value) : Only F a (w.setCell p u) :=
 ⟨h.os, h.tape, h.output, by rw [World.size_setCell]; exact h.size, fun k hk hf => by
  rw [Below.heap_setCell w p u k (fun e => by subst e; rcases hp with x | x; exact hf x; omega)]
  exact h.block k hk hf⟩
theorem Only.drew {F : Nat → Prop} {a w : World} (h : Only F a w) : Only F a w.drew := ⟨h.os, h.tape, h.output, h.size, h.block⟩
end Go.Proofs.Yteakhlnnepjhpaa
/- Tokens of a script: what package lex's texts and the document's own answer share: blocks, rows of tokens, bytes behind a place. -/
namespace Go.Proofs.Yteakhlnnepjhpaa
open Go.RowKit
set_option linter.unusedVariables false
theorem bool_ret {x y : Bool} (h : x = true ↔ y = true) : Ending.returned (.bool x) = Ending.returned (.bool y) := by rw [Bool.eq_iff_iff.2 h]
/-- A block with these cells. -/
def Blk (W : World) (b : Nat) (cells : Array Value) (t : TypeId) : Prop := W.heap[b]? = some (.cells cells t (0, 0))
theorem Blk.lt {W : World} {b : Nat} {c : Array Value} {t : TypeId} (h : Blk W b c t) : b < W.heap.size := (Array.getElem?_eq_some_iff.1 (show W.heap[b]? = _ from h)).1
theorem grown_set (W : World) (b o : Nat) (v : Value) : W.grownBy (W.setCell ⟨b, o, none⟩ v) (some b) :=
 ⟨rfl, rfl, rfl, by rw [World.size_setCell]; exact Nat.le_refl _, fun k _ hk => Below.heap_setCell _ _ _ k (fun e => hk (by rw [e]))⟩
/-- The same memory. -/
structure Sm (w w' : World) : Prop where
 os : w'.os = w.os
 tape : w'.tape = w.tape
 output : w'.output = w.output
 heap : w'.heap = w.heap
theorem Sm.refl (w : World) : Sm w w := ⟨rfl, rfl, rfl, rfl⟩
theorem Sm.trans {a b c : World} (h : Sm a b) (k : Sm b c) : Sm a c := ⟨k.os.trans h.os, k.tape.trans h.tape, k.output.trans h.output, k.heap.trans h.heap⟩
theorem Sm.cell {w w' : World} (h : Sm w w') (p : Addr) : w'.cell? p = w.cell? p := by unfold World.cell?; rw [h.heap]
theorem Sm.frozen {w w' : World} (h : Sm w w') (p : Addr) : w'.frozen? p = w.frozen? p := by unfold World.frozen?; rw [h.heap]
theorem Sm.grown {w w' : World} (h : Sm w w') (r : Option Nat) : w.grownBy w' r := ⟨h.os, h.tape, h.output, by rw [h.heap]; exact Nat.le_refl _, fun k _ _ => by rw [h.heap]⟩
theorem Sm.below {w w' : World} (h : Sm w w') (B : Nat) : Below B w w' := ⟨h.os, h.tape, h.output, by rw [h.heap]; exact Nat.le_refl _, fun k _ => by rw [h.heap]⟩
theorem drop_cons (s : ByteArray) (k : Nat) (h : k < s.size) : s.data.toList.drop k = s[k] :: s.data.toList.drop (k + 1) :=
 List.drop_eq_getElem_cons (by simpa using h)
theorem drop_none (s : ByteArray) (k : Nat) (h : s.size ≤ k) : s.data.toList.drop k = [] := List.drop_eq_nil_of_le (by simpa using h)
theorem exd (s : ByteArray) (f k : Nat) : (s.extract f k).data.toList = (s.data.toList.drop f).take (k - f) := by simp
theorem ba_eta (s : ByteArray) : (⟨s.data.toList.toArray⟩ : ByteArray) = s := by simp
/-- A token's cells. -/
def tcs (t : LxM.T) : Array Value := #[.int .i64 t.kind, .string ⟨t.text.toArray⟩, .int .i64 t.n, .int .i64 (t.at_ : Int)]
def tval (t : LxM.T) : Value := .agg (tcs t)
theorem infoT : (Try.prog.info? 51).map (fun i => (i.zero, i.size, i.bytes)) = some (some (.agg #[.int .i64 0, .string ⟨#[]⟩, .int .i64 0, .int .i64 0]), 4, 40) := by kernel_rfl
theorem sizeT : (Try.prog.info? 51).map (·.size) = some 4 := by kernel_rfl
theorem one4 (a : Int) (b : ByteArray) (c d : Int) : (#[Value.int .i64 a, .string b, .int .i64 c, .int .i64 d] : Array Value).all (·.oneCell') = true := by simp [Value.oneCell']
theorem setRow_heap' (w : World) (g : Nat) (cs : Array Value) (t : TypeId) (old : Array Value) (h : w.heap[g]? = some (.cells old t (0, 0))) : (w.setRow g cs).heap[g]? = some (.cells cs t (0, 0)) := by
 simp [World.setRow, Array.getElem?_modify, h]
theorem res_row_tmp {P : Program} {fn : Func} {p u : Tmp} {ty : TypeId} (h : fn.results = #[.cell p ty, .tmp u]) (tmps : Array Value) (w : World) (g : Nat) (t : TypeId) (cs : Array Value) (fr : Nat × Nat) (z : Value) (d : TypeDesc) (hp : tmps.getD p undef = .pointer (some ⟨g, 0, none⟩)) (hz : tmps.getD u undef = z)
  (hg : w.heap[g]? = some (.cells cs t fr)) (hu : P.underlying ty = some d) (hd : (match d with | .struct _ | .array _ _ => true | _ => false) = true) (hi : (P.info? ty).map (·.size) = some cs.size) :
  (results fn tmps).run P w = .ok (.tuple #[.agg cs, z]) w := by
 rw [results_cell_tmp h, hp, hz]
 show ((loadVar ty _).run P w).andThen _ = _
 rw [run_loadVar_row w g t ty cs fr d hg hu hd hi]
 rfl
theorem grown_row (W : World) (b : Nat) (cs : Array Value) : W.grownBy (W.setRow b cs) (some b) :=
 ⟨rfl, rfl, rfl, by simp [World.setRow], fun k hk hne => by
  simp only [World.setRow, Array.getElem?_modify]
  rw [if_neg (fun e => hne (by rw [e]))]⟩
theorem Blk.below {W W' : World} {b B : Nat} {c : Array Value} {t : TypeId} (h : Blk W b c t) (hb : Below B W W') (hB : b < B) : Blk W' b c t := (hb.block b hB).trans h
theorem Blk.grown {W W' : World} {b : Nat} {r : Option Nat} {c : Array Value} {t : TypeId} (h : Blk W b c t) (hg : W.grownBy W' r) (hr : r ≠ some b) : Blk W' b c t := (hg.block b h.lt (fun e => hr e.symm)).trans h
theorem Blk.keep {W W' : World} {b : Nat} {c : Array Value} {t : TypeId} (h : Blk W b c t) (hb : Below W.heap.size W W') : Blk W' b c t := h.below hb h.lt
theorem Blk.new (W : World) (c : Array Value) (t : TypeId) : Blk (W.alloc (.cells c t (0, 0))) W.heap.size c t := by
 show (W.heap.push _)[W.heap.size]? = _
 simp
theorem below_new {W W1 : World} {o : Obj} (h : Below (W.alloc o).heap.size (W.alloc o) W1) : Below W.heap.size W W1 :=
 have k : Below W.heap.size W (W.alloc o) := (Below.refl _ W).alloc (Nat.le_refl _) o
 k.trans (h.mono k.size)
theorem below_row {B : Nat} {W W1 : World} (h : Below B W W1) (b : Nat) (hb : B ≤ b) (cs : Array Value) : Below B W (W1.setRow b cs) :=
 ⟨h.os, h.tape, h.output, by have := (grown_row W1 b cs).size; exact Nat.le_trans h.size this, fun k hk => by
  rw [← h.block k hk]
  simp only [World.setRow, Array.getElem?_modify]
  rw [if_neg (by omega)]⟩
theorem below_grown {W W1 : World} (h : Below W.heap.size W W1) (r : Option Nat) : W.grownBy W1 r := ⟨h.os, h.tape, h.output, h.size, fun k hk _ => h.block k hk⟩
theorem Blk.four {W : World} {b : Nat} {v0 v1 v2 v3 : Value} {t : TypeId} (h : Blk W b #[v0, v1, v2, v3] t) :
  (W.cell? ⟨b, 0, none⟩ = some v0 ∧ W.cell? ⟨b, 1, none⟩ = some v1 ∧ W.cell? ⟨b, 2, none⟩ = some v2 ∧ W.cell? ⟨b, 3, none⟩ = some v3) ∧
  W.frozen? ⟨b, 0, none⟩ = false ∧ W.frozen? ⟨b, 1, none⟩ = false ∧ W.frozen? ⟨b, 2, none⟩ = false ∧ W.frozen? ⟨b, 3, none⟩ = false := by
 have h : W.heap[b]? = _ := h
 simp [World.cell?, World.frozen?, h]
theorem own_grown {W W' : World} {base : Nat} {e : TypeId} {z n : Nat} {v : Value} {xs : List Value} {g : Nat} (h : W.ownsRow base e z v n xs) (hg : W.grownBy W' (some g)) (hb : g < base) : W'.ownsRow base e z v n xs := by
 refine ⟨h.1, ?_⟩
 rcases h.2 with ⟨rfl, h0⟩ | ⟨p, cap, cur, rfl, hp, hbk, hc, h4, hs, ht⟩
 ·exact .inl ⟨rfl, h0⟩
 ·exact .inr ⟨p, cap, cur, rfl, hp, (hg.block p (Array.getElem?_eq_some_iff.1 hbk).1 (fun e => by have := Option.some.inj e; omega)).trans hbk, hc, h4, hs, ht⟩
namespace LxM
def hexq (m : UInt8) (l : List UInt8) : Option (List UInt8 × List UInt8) :=
 match l with
 | a :: b :: r2 => if hx (i a) = -1 ∨ hx (i b) = -1 then none else (qt m r2).map fun x => (UInt8.ofNat (hx (i a) * 16 + hx (i b)).toNat :: x.1, x.2)
 | _ => none
def esc (m : UInt8) (r : List UInt8) : Option (List UInt8 × List UInt8) :=
 match r with
 | [] => none
 | e :: r1 =>
  if e = 110 then (qt m r1).map fun x => (10 :: x.1, x.2)
  else if e = 116 then (qt m r1).map fun x => (9 :: x.1, x.2)
  else if e = 92 ∨ e = 34 ∨ e = 39 then (qt m r1).map fun x => (e :: x.1, x.2)
  else if e = 120 then hexq m r1
  else none
theorem qt_nil (m : UInt8) : qt m [] = none := by rw [qt.eq_def]
theorem qt_cons (m c : UInt8) (r : List UInt8) : qt m (c :: r) = if c = m then some ([], r) else if c = 10 then none else if c = 92 then esc m r else (qt m r).map fun x => (c :: x.1, x.2) := by rw [qt.eq_def]; rfl
def app (acc : List UInt8) (x : Option (List UInt8 × List UInt8)) : Option (List UInt8 × List UInt8) := x.map fun y => (acc ++ y.1, y.2)
theorem app_nil (x : Option (List UInt8 × List UInt8)) : app [] x = x := by cases x <;> rfl
theorem app_map (acc : List UInt8) (c : UInt8) (x : Option (List UInt8 × List UInt8)) : app acc (x.map fun y => (c :: y.1, y.2)) = app (acc ++ [c]) x := by cases x <;> simp [app]
end LxM
/-- Tokens' cells, one behind the other. -/
def tcells : List LxM.T → List Value
 | [] => []
 | a :: r => (tcs a).toList ++ tcells r
theorem tcells_length : ∀ l : List LxM.T, (tcells l).length = l.length * 4
 | [] => rfl
 | a :: r => by simp [tcells, tcs, tcells_length r]; omega
theorem tcells_append : ∀ a b : List LxM.T, tcells (a ++ b) = tcells a ++ tcells b
 | [], b => rfl
 | a :: r, b => by simp [tcells, tcells_append r b]
def TRow (w : World) (base : Nat) (v : Value) (l : List LxM.T) : Prop := w.ownsRow base 51 4 v l.length (tcells l)
theorem tcs_one (t : LxM.T) : ∀ y ∈ (tcs t).toList, y.oneCell' = true := by
 intro y hy
 simp [tcs] at hy
 rcases hy with rfl | rfl | rfl | rfl <;> rfl
theorem step_append_tok {w : World} {ops : Array Oper} {o : Oper} {a : Act} {K : Act → World → Prop} {Q : Exit → Act → World → Prop} {E : Prop} (hgd : o.guard = none) (s x : Operand)
  (ho : o.op = .call { callee := .builtin .append, args := #[s, x], argTypes := #[43, 43] })
  (base : Nat) (v : Value) (l : List LxM.T) (hs : a.eval s = v) (hown : TRow w base v l)
  (b : Nat) (hx : a.eval x = .slice (some ⟨b, 0, none⟩) 1 1) (t : LxM.T) (ty : TypeId) (fr : Nat × Nat) (hu : w.heap[b]? = some (.cells (tcs t) ty fr)) (hlen : l.length ≤ 100000) (hb : base ≤ w.heap.size)
  (h : ∀ v' w', TRow w' base v' (l ++ [t]) → w.grownBy w' v.ownBlock → K (a.put o.dst v') w') :
  if Region.wanted o (yielded ops a.tmps) = true then Oper.wp Try.prog o a w K Q else E := by
 have hw : Region.wanted o (yielded ops a.tmps) = true := by simp [Region.wanted, hgd]
 rw [if_pos hw]
 obtain ⟨i, hi, hz, k1, k2⟩ := info_parts infoT
 obtain ⟨v', w', hrun, h2, h3, _, _⟩ := run_append_own_at (P := Try.prog) w base 43 o.type 51 i _ 4 40 Try.underlying43 hi hz k1 k2 rfl (by decide) v l.length (tcells l) hown ⟨b, 0, none⟩ 1 1 (tcs t).toList rfl (fun j y hy => by
  have hj : j < 4 := by have := (List.getElem?_eq_some_iff.1 hy).1; simpa [tcs] using this
  have e : (⟨b, 0, none⟩ : Addr).add j = ⟨b, j, none⟩ := by unfold Addr.add; split <;> simp_all
  rw [e]
  simp only [World.cell?, hu]
  simpa using hy) (tcs_one t) (by unfold maxLen; omega) (by omega) hb
 unfold Oper.wp
 simp [execOp, ho, resolve, invoke, builtin, hs, hx, hrun, Result.andThen]
 exact h v' w' (by unfold TRow; rw [tcells_append, List.length_append]; simpa [tcells] using h2) h3
theorem trow_grown {W W' : World} {base : Nat} {v : Value} {l : List LxM.T} {r : Nat} (h : TRow W base v l) (hg : W.grownBy W' (some r)) (hb : r < base) : TRow W' base v l := own_grown h hg hb
/-- A slice that reads as tokens. -/
def TList (w : World) (v : Value) (l : List LxM.T) : Prop := ∃ A c, v = .slice A l.length c ∧ (A = none → c = 0) ∧ l.length ≤ c ∧ ∀ i (h : i < l.length), ∃ p : Addr, A = some p ∧ p.block < w.heap.size ∧ w.cell? (p.add (i * 4)) = some (.int .i64 l[i].kind) ∧ w.cell? (p.add (i * 4 + 1)) = some (.string ⟨l[i].text.toArray⟩) ∧ w.cell? (p.add (i * 4 + 2)) = some (.int .i64 l[i].n) ∧ w.cell? (p.add (i * 4 + 3)) = some (.int .i64 (l[i].at_ : Int))
theorem tcells_at : ∀ (l : List LxM.T) (i : Nat) (h : i < l.length), (tcells l)[i * 4]? = some (.int .i64 l[i].kind) ∧ (tcells l)[i * 4 + 1]? = some (.string ⟨l[i].text.toArray⟩) ∧ (tcells l)[i * 4 + 2]? = some (.int .i64 l[i].n) ∧ (tcells l)[i * 4 + 3]? = some (.int .i64 (l[i].at_ : Int))
 | [], i, h => by cases h
 | a :: r, 0, h => by simp [tcells, tcs]
 | a :: r, i + 1, h => by
  have k := tcells_at r i (by simpa using h)
  have e : (i + 1) * 4 = i * 4 + 4 := by omega
  rw [e]
  simpa [tcells, tcs] using k
theorem TRow.list {w : World} {base : Nat} {v : Value} {l : List LxM.T} (h : TRow w base v l) : TList w v l := by
 have h' := h
 unfold TRow at h'
 rcases h'.2 with ⟨rfl, h0⟩ | ⟨g, cap, cur, rfl, hg, hb, hc, _, hs, ht⟩
 ·have e : l = [] := List.eq_nil_of_length_eq_zero h0
  subst e
  exact ⟨none, 0, rfl, fun _ => rfl, Nat.le_refl _, fun i hi => absurd hi (by simp)⟩
 ·refine ⟨_, cap, rfl, (fun e => nomatch e), hc, fun i hi => ?_⟩
  have hlt : g < w.heap.size := (Array.getElem?_eq_some_iff.1 hb).1
  obtain ⟨x, y, z, u⟩ := tcells_at l i hi
  exact ⟨_, rfl, hlt, h'.cells (g := g) rfl _ _ x, h'.cells (g := g) rfl _ _ y, h'.cells (g := g) rfl _ _ z, h'.cells (g := g) rfl _ _ u⟩
theorem TList.keep {w w' : World} {v : Value} {l : List LxM.T} (h : TList w v l) (hb : Below w.heap.size w w') : TList w' v l := by
 obtain ⟨A, c, e, hA, hc, hr⟩ := h
 refine ⟨A, c, e, hA, hc, fun i hi => ?_⟩
 obtain ⟨p, ep, hp, h0, h1, h2, h3⟩ := hr i hi
 have k : ∀ j, w'.cell? (p.add j) = w.cell? (p.add j) := fun j => hb.cell (by rw [add_block]; exact hp)
 exact ⟨p, ep, Nat.lt_of_lt_of_le hp hb.size, by rw [k]; exact h0, by rw [k]; exact h1, by rw [k]; exact h2, by rw [k]; exact h3⟩
/-- Not more tokens than bytes, and one. -/
theorem lexT_count (n : Nat) : ∀ (k : Nat) (l : List UInt8) (a : List LxM.T), l.length ≤ k → LxM.lexT n l = .ok a → a.length ≤ l.length + 1 := by
 intro k
 induction k with
 | zero =>
  intro l a hk h
  obtain rfl : l = [] := List.eq_nil_of_length_eq_zero (by omega)
  rw [LxM.lexT_nil] at h
  injection h with h
  subst h; simp
 | succ k ih =>
  intro l a hk h
  cases l with
  | nil =>
   rw [LxM.lexT_nil] at h
   injection h with h
   subst h; simp
  | cons c r0 =>
   cases ht : LxM.tk (c :: r0) with
   | none => rw [LxM.lexT_bad _ _ (by simp) ht] at h; cases h
   | some q =>
    obtain ⟨x, r⟩ := q
    have hlen := LxM.tk_len ht
    have hs := LxM.sk_len r false
    rw [LxM.lexT_ok _ _ _ _ ht] at h
    cases hr : LxM.lexS n r with
    | bad p => rw [hr] at h; cases h
    | ok b =>
     rw [hr] at h
     injection h with h
     have := ih _ b (by omega) hr
     rw [← h]
     simp at hlen ⊢
     omega
theorem lex_count {l : List UInt8} {a : List LxM.T} (h : LxM.lex l = .ok a) : a.length ≤ l.length + 1 :=
 Nat.le_trans (lexT_count _ _ _ a (Nat.le_refl _) h) (by have := LxM.sk_len l false; omega)
/-- A block that is filled with a token, and moved. -/
theorem box_row (W : World) (Z cs : Array Value) : Blk ((W.alloc (.cells Z 51)).setRow W.heap.size cs) W.heap.size cs 51 := setRow_heap' _ _ _ _ _ (Blk.new W Z _)
theorem box_set {W : World} {b : Nat} {v0 v1 v2 v3 : Value} {t : TypeId} (h : Blk W b #[v0, v1, v2, v3] t) (u : Value) : Blk (W.setCell ⟨b, 3, none⟩ u) b #[v0, v1, v2, u] t := by
 have h : W.heap[b]? = _ := h
 show (W.setCell ⟨b, 3, none⟩ u).heap[b]? = _
 simp [World.setCell, Array.getElem?_modify, h]
theorem box_below {B : Nat} {W W1 : World} (h : Below B W W1) (hB : B ≤ W1.heap.size) (Z cs : Array Value) (t : TypeId) (u : Value) : Below B W (((W1.alloc (.cells Z t)).setRow W1.heap.size cs).setCell ⟨W1.heap.size, 3, none⟩ u) :=
 (below_row (h.alloc hB _) _ hB _).setCell (p := ⟨W1.heap.size, 3, none⟩) hB _
theorem add_more (p : Addr) (n j : Nat) (hj : 0 < j) : p.add (n + j) = ⟨(p.add n).block, (p.add n).off + j, none⟩ := by
 by_cases hn : n = 0
 ·subst hn
  simp [Addr.add]; omega
 ·have : n + j ≠ 0 := by omega
  simp [Addr.add, hn]; omega
/-- A token at an address, as the walk spells it. -/
def TokAt (w : World) (q : Addr) (t : LxM.T) : Prop := w.cell? q = some (.int .i64 t.kind) ∧ w.cell? ⟨q.block, q.off + 1, none⟩ = some (.string ⟨t.text.toArray⟩) ∧ w.cell? ⟨q.block, q.off + 2, none⟩ = some (.int .i64 t.n) ∧ w.cell? ⟨q.block, q.off + 3, none⟩ = some (.int .i64 (t.at_ : Int))
theorem TList.tok {w : World} {A : Option Addr} {n c : Nat} {l : List LxM.T} (h : TList w (.slice A n c) l) : n = l.length ∧ (A = none → c = 0) ∧ l.length ≤ c ∧ ∀ i (hi : i < l.length), ∃ p : Addr, A = some p ∧ p.block < w.heap.size ∧ TokAt w (p.add (i * 4)) l[i] := by
 obtain ⟨A', c', e, hA, hc, hr⟩ := h
 injection e with e1 e2 e3
 subst e1; subst e2; subst e3
 refine ⟨rfl, hA, hc, fun i hi => ?_⟩
 obtain ⟨p, ep, hp, h0, h1, h2, h3⟩ := hr i hi
 rw [add_more _ _ _ (by decide)] at h1 h2 h3
 exact ⟨p, ep, hp, h0, h1, h2, h3⟩
theorem TokAt.keep {w w' : World} {q : Addr} {t : LxM.T} {B : Nat} (h : TokAt w q t) (hb : Below B w w') (hq : q.block < B) : TokAt w' q t := by
 obtain ⟨h0, h1, h2, h3⟩ := h
 exact ⟨by rw [hb.cell hq]; exact h0, by rw [hb.cell (p := ⟨q.block, q.off + 1, none⟩) hq]; exact h1, by rw [hb.cell (p := ⟨q.block, q.off + 2, none⟩) hq]; exact h2, by rw [hb.cell (p := ⟨q.block, q.off + 3, none⟩) hq]; exact h3⟩
theorem TList.shows {w : World} {v : Value} {l : List LxM.T} (h : TList w v l) : ∃ A c, v = .slice A l.length c ∧ (A = none → c = 0) ∧ l.length ≤ c := by
 obtain ⟨A, c, e, hA, hc, _⟩ := h
 exact ⟨A, c, e, hA, hc⟩
end Go.Proofs.Yteakhlnnepjhpaa
/- The document's own answer: letters, digits, where a word ends, the words, names. -/
namespace Go.Proofs.Yteakhlnnepjhpaa
open Go.RowKit
set_option linter.unusedVariables false
theorem rdig_any (c : UInt8) (w : World) :
  Calls Try.prog 28 #[.int .u8 (c.toNat : Int)] w fun e w' => e = .returned (.bool (LxM.dg (LxM.i c))) ∧ w = w' := by
 have h1 := c.toNat_lt
 unfold LxM.i
 generalize (c.toNat : Int) = b
 go_enter Try.func28, Try.ntmps28
 go_wp2_with fail
 all_goals go_ret
 all_goals exact ⟨bool_ret (by simp [LxM.dg] <;> omega), rfl⟩
theorem rlet_any (c : UInt8) (w : World) :
  Calls Try.prog 26 #[.int .u8 (c.toNat : Int)] w fun e w' => e = .returned (.bool (LxM.lt (LxM.i c))) ∧ w = w' := by
 have h1 := c.toNat_lt
 unfold LxM.i
 generalize (c.toNat : Int) = b
 go_enter Try.func26, Try.ntmps26
 go_wp2_with fail
 all_goals go_ret
 all_goals exact ⟨bool_ret (by simp [LxM.lt] <;> omega), rfl⟩
/-- Where a word ends. -/
def rn (s : ByteArray) (k : Nat) : Nat := k + ((s.data.toList.drop k).takeWhile LxM.wdb).length
theorem rn_on {s : ByteArray} {k : Nat} (h : k < s.size) (hw : LxM.wd (LxM.i s[k]) = true) : rn s k = rn s (k + 1) := by
 unfold rn
 rw [drop_cons s k h, List.takeWhile_cons, if_pos (show LxM.wdb s[k] = true from hw)]
 simp; omega
theorem rn_off {s : ByteArray} {k : Nat} (h : k < s.size) (hw : LxM.wd (LxM.i s[k]) = false) : rn s k = k := by
 unfold rn
 rw [drop_cons s k h, List.takeWhile_cons, if_neg (show ¬ LxM.wdb s[k] = true by show ¬ LxM.wd (LxM.i s[k]) = true; rw [hw]; decide)]
 rfl
theorem rn_end {s : ByteArray} {k : Nat} (h : s.size ≤ k) : rn s k = k := by
 unfold rn
 rw [drop_none s k h]; rfl
set_option maxHeartbeats 2000000 in
theorem run_any (s : ByteArray) (k : Nat) (w : World) (hk : k ≤ s.size) (hs : s.size ≤ 1048576) :
  Calls Try.prog 25 #[.string s, .int .i64 (k : Int)] w fun e w' => e = .returned (.int .i64 (rn s k : Int)) ∧ w = w' := by
 obtain ⟨r, hr⟩ : ∃ r, rn s k = r := ⟨_, rfl⟩
 rw [hr]
 have HR := Lib.hid hr
 clear hr
 go_enter Try.func25, Try.ntmps25
 go_wp2_with fail
 go_loopw [1] (fun i wr => ∃ j : Nat, k ≤ j ∧ j ≤ s.size ∧ i = .int .i64 j ∧ rn s j = r ∧ wr = w) (fun i _ => s.size - (intOf i).toNat)
 case atStart => exact ⟨k, Nat.le_refl _, hk, rfl, HR.out, rfl⟩
 case round =>
  obtain ⟨j, hkj, hj, rfl, hrn, hwr⟩ := hrel
  obtain rfl := hwr
  have HRN := Lib.hid hrn
  have j0 : (0 : Int) ≤ (j : Int) := by omega
  clear hrn
  by_cases hlt : j < s.size
  ·have j1 : (j : Int) < (s.size : Int) := by omega
   have wk1 : wrap64 ((j : Int) + 1) = ((j + 1 : Nat) : Int) := by unfold wrap64; omega
   have LE := fun w => rlet_any s[j] w
   have DI := fun w => rdig_any s[j] w
   have ON := Lib.hid (rn_on hlt)
   have OFF := Lib.hid (rn_off hlt)
   unfold LxM.wd at ON OFF
   generalize LxM.lt (LxM.i s[j]) = x at *
   generalize LxM.dg (LxM.i s[j]) = y at *
   cases x
   ·cases y
    ·go_wp2_with (first
      |(go_at_call 26; refine (LE _).mono ?_; rintro e w' ⟨rfl, rfl⟩)
      |(go_at_call 28; refine (DI _).mono ?_; rintro e w' ⟨rfl, rfl⟩))
     go_ret
     exact ⟨by rw [← HRN.out, OFF.out rfl]; rfl, rfl⟩
    ·go_wp2_with (first
      |(go_at_call 26; refine (LE _).mono ?_; rintro e w' ⟨rfl, rfl⟩)
      |(go_at_call 28; refine (DI _).mono ?_; rintro e w' ⟨rfl, rfl⟩))
     refine ⟨⟨j + 1, by omega, hlt, by first | rfl | rw [wk1], by rw [← ON.out rfl]; exact HRN.out, trivial⟩, by simp [intOf]; omega⟩
   ·go_wp2_with (first
     |(go_at_call 26; refine (LE _).mono ?_; rintro e w' ⟨rfl, rfl⟩)
     |(go_at_call 28; refine (DI _).mono ?_; rintro e w' ⟨rfl, rfl⟩))
    refine ⟨⟨j + 1, by omega, hlt, by first | rfl | rw [wk1], by rw [← ON.out rfl]; exact HRN.out, trivial⟩, by simp [intOf]; omega⟩
  ·obtain rfl : j = s.size := by omega
   go_wp2_with fail
   go_ret
   exact ⟨by rw [← HRN.out, rn_end (Nat.le_refl _)]; rfl, rfl⟩
/-- A row of texts. -/
def Tx (w : World) (b : Nat) (ts : List ByteArray) : Prop := ∀ i (h : i < ts.length), w.cell? ⟨b, i, none⟩ = some (.string ts[i])
set_option maxHeartbeats 2000000 in
theorem has_any (ts : List ByteArray) (b c : Nat) (s : ByteArray) (w : World) (ht : Tx w b ts) (hn : ts.length ≤ c) (hc : ts.length ≤ 1000) :
  Calls Try.prog 21 #[.slice (some ⟨b, 0, none⟩) ts.length c, .string s] w fun e w' => e = .returned (.bool (ts.any fun t => t.toList == s.toList)) ∧ w = w' := by
 obtain ⟨n, en⟩ : ∃ n, ts.length = n := ⟨_, rfl⟩
 have EN := Lib.hid en
 have HT := Lib.hid ht
 obtain ⟨av, hav⟩ : ∃ av, (ts.any fun t => t.toList == s.toList) = av := ⟨_, rfl⟩
 rw [hav, en]
 have HAV := Lib.hid hav
 have c0 : (n : Int) ≤ (c : Int) := by omega
 have c1 : (n : Int) ≤ 1000 := by omega
 clear ht hav en hn hc
 go_enter Try.func21, Try.ntmps21
 go_wp2_with fail
 go_loopw [5] (fun i wr => ∃ j : Nat, j ≤ n ∧ i = .int .i64 j ∧ ((ts.take j).any fun t => t.toList == s.toList) = false ∧ wr = w) (fun i _ => n - (intOf i).toNat)
 case atStart => exact ⟨0, Nat.zero_le _, rfl, rfl, rfl⟩
 case round =>
  obtain ⟨j, hj, rfl, hall, hwr⟩ := hrel
  obtain rfl := hwr
  have HA := Lib.hid hall
  have j0 : (0 : Int) ≤ (j : Int) := by omega
  clear hall
  by_cases hlt : j < n
  ·have j1 : (j : Int) < (n : Int) := by omega
   have wk1 : wrap64 ((j : Int) + 1) = ((j + 1 : Nat) : Int) := by unfold wrap64; omega
   have hjl : j < ts.length := by rw [EN.out]; exact hlt
   have cj := HT.out j hjl
   have NX := Lib.hid (List.take_succ_eq_append_getElem hjl)
   have MEM := Lib.hid (List.getElem_mem hjl)
   obtain ⟨t, et⟩ : ∃ t, ts[j] = t := ⟨_, rfl⟩
   rw [et] at cj NX MEM
   clear et
   cases hb : (t.toList == s.toList)
   ·have HB := Lib.hid hb
    go_wp2_with fail
    refine ⟨⟨j + 1, hlt, by first | rfl | rw [wk1], by rw [NX.out, List.any_append, HA.out]; simp [HB.out], trivial⟩, by simp [intOf]; omega⟩
   ·have HB := Lib.hid hb
    go_wp2_with fail
    go_ret
    exact ⟨by rw [← HAV.out, List.any_eq_true.2 ⟨t, MEM.out, HB.out⟩]; rfl, rfl⟩
  ·obtain rfl : j = n := by omega
   go_wp2_with fail
   go_ret
   exact ⟨by rw [← HAV.out, ← HA.out, List.take_of_length_le (by rw [EN.out]; exact Nat.le_refl _)]; rfl, rfl⟩
def wordsB : List ByteArray := [⟨#[97, 110, 100]⟩, ⟨#[98, 114, 101, 97, 107]⟩, ⟨#[100, 111]⟩, ⟨#[101, 108, 115, 101]⟩, ⟨#[101, 108, 115, 101, 105, 102]⟩, ⟨#[101, 110, 100]⟩, ⟨#[102, 97, 108, 115, 101]⟩, ⟨#[102, 111, 114]⟩, ⟨#[102, 117, 110, 99, 116, 105, 111, 110]⟩, ⟨#[105, 102]⟩, ⟨#[105, 110]⟩, ⟨#[108, 111, 99, 97, 108]⟩, ⟨#[110, 105, 108]⟩, ⟨#[110, 111, 116]⟩, ⟨#[111, 114]⟩, ⟨#[114, 101, 112, 101, 97, 116]⟩, ⟨#[114, 101, 116, 117, 114, 110]⟩, ⟨#[116, 104, 101, 110]⟩, ⟨#[116, 114, 117, 101]⟩, ⟨#[117, 110, 116, 105, 108]⟩, ⟨#[119, 104, 105, 108, 101]⟩]
theorem words_data : LxM.words = wordsB.map (fun t : ByteArray => t.data.toList) := rfl
theorem any_contains (ts : List ByteArray) (s : ByteArray) : (ts.any fun t => t.toList == s.toList) = (ts.map fun t => t.data.toList).contains s.data.toList := by
 rw [List.contains_eq_any_beq, List.any_map]
 congr 1
 funext t
 simp only [Function.comp, Go.ByteArray.toList_eq]
 exact Bool.beq_comm
/-- Blocks made on the way. -/
theorem tx_new (w : World) (ts : List ByteArray) (t : TypeId) (C : Array Value) (hC : C = (ts.map Value.string).toArray) : Tx (w.alloc (.cells C t)) w.heap.size ts := fun i hi => by
 subst hC
 rw [World.cell?_alloc_mark]
 simp [hi]
set_option maxRecDepth 20000 in
set_option maxHeartbeats 4000000 in
theorem rword_any (s : ByteArray) (w : World) :
  Calls Try.prog 27 #[.string s] w fun e w' => e = .returned (.bool (LxM.isWord s.data.toList)) ∧ Below w.heap.size w w' := by
 have HT : Hid (∀ C, C = (wordsB.map Value.string).toArray → Tx (w.alloc (.cells C 9)) w.heap.size wordsB) := fun C hC => tx_new w wordsB 9 C hC
 have WE : LxM.isWord s.data.toList = wordsB.any fun t => t.toList == s.toList := by
  unfold LxM.isWord
  rw [words_data, any_contains]
 have HA : Hid (∀ b w, Tx w b wordsB → Calls Try.prog 21 #[.slice (some ⟨b, 0, none⟩) 21 21, .string s] w fun e w' => e = .returned (.bool (LxM.isWord s.data.toList)) ∧ w = w') := fun b w h => by
  rw [WE]; exact has_any wordsB b 21 s w h (by decide) (by decide)
 obtain ⟨av, hav⟩ : ∃ av, LxM.isWord s.data.toList = av := ⟨_, rfl⟩
 rw [hav] at HA ⊢
 clear hav WE
 go_enter Try.func27, Try.ntmps27
 go_wp2_with (go_at_call 21; refine (HA.out _ _ (HT.out _ rfl)).mono ?_; rintro e w' ⟨rfl, rfl⟩)
 go_ret
 exact ⟨rfl, (Below.refl _ _).alloc (Nat.le_refl _) _⟩
end Go.Proofs.Yteakhlnnepjhpaa
/- The document's own answer: digits to the base 16, blanks and remarks, signs, numbers. -/
namespace Go.Proofs.Yteakhlnnepjhpaa
open Go.RowKit
set_option linter.unusedVariables false
theorem rhex_any (c : UInt8) (w : World) :
  Calls Try.prog 47 #[.int .u8 (c.toNat : Int)] w fun e w' => e = .returned (.int .i64 (LxM.hx (LxM.i c))) ∧ w = w' := by
 have h1 := c.toNat_lt
 have DI := fun w => rdig_any c w
 unfold LxM.hx
 have e0 : LxM.dg (LxM.i c) = true → 48 ≤ (c.toNat : Int) ∧ (c.toNat : Int) ≤ 57 := fun h => ⟨of_decide_eq_true (Bool.and_eq_true_iff.1 h).1, of_decide_eq_true (Bool.and_eq_true_iff.1 h).2⟩
 obtain ⟨d, ed⟩ : ∃ d, LxM.dg (LxM.i c) = d := ⟨_, rfl⟩
 rw [ed] at DI e0 ⊢
 clear ed
 unfold LxM.i
 obtain ⟨b, eb⟩ : ∃ b : Int, (c.toNat : Int) = b := ⟨_, rfl⟩
 rw [eb] at DI e0 ⊢
 have b0 : 0 ≤ b := by omega
 have b1 : b < 256 := by omega
 clear h1 eb
 cases d with
 | false =>
  clear e0
  rw [if_neg (by decide)]
  by_cases p : 97 ≤ b ∧ b ≤ 102
  ·obtain ⟨p1, p2⟩ := p
   have e2 : (b - 97) % 256 = b - 97 := by omega
   have e4 : wrap64 (b - 97 + 10) = b - 97 + 10 := by unfold wrap64; omega
   have ee : (if (decide (97 ≤ b) && decide (b ≤ 102)) = true then b - 87 else if (decide (65 ≤ b) && decide (b ≤ 70)) = true then b - 55 else -1) = b - 97 + 10 := by
    rw [if_pos (by simp [p1, p2])]; omega
   rw [ee]
   go_enter Try.func47, Try.ntmps47
   go_wp2_with (go_at_call 28; refine (DI _).mono ?_; rintro e w' ⟨rfl, rfl⟩)
   go_ret
   exact ⟨rfl, rfl⟩
  ·by_cases q : 65 ≤ b ∧ b ≤ 70
   ·obtain ⟨p1, p2⟩ := q
    have e2 : (b - 65) % 256 = b - 65 := by omega
    have e4 : wrap64 (b - 65 + 10) = b - 65 + 10 := by unfold wrap64; omega
    have q1 : ¬ 97 ≤ b := by omega
    have ee : (if (decide (97 ≤ b) && decide (b ≤ 102)) = true then b - 87 else if (decide (65 ≤ b) && decide (b ≤ 70)) = true then b - 55 else -1) = b - 65 + 10 := by
     rw [if_neg (by simp [q1]), if_pos (by simp [p1, p2])]; omega
    rw [ee]
    clear p
    go_enter Try.func47, Try.ntmps47
    go_wp2_with (go_at_call 28; refine (DI _).mono ?_; rintro e w' ⟨rfl, rfl⟩)
    go_ret
    exact ⟨rfl, rfl⟩
   ·have ee : (if (decide (97 ≤ b) && decide (b ≤ 102)) = true then b - 87 else if (decide (65 ≤ b) && decide (b ≤ 70)) = true then b - 55 else -1) = -1 := by
     rw [if_neg (by simpa using p), if_neg (by simpa using q)]
    rw [ee]
    have s1 : b < 65 ∨ 70 < b ∧ b < 97 ∨ 102 < b := by omega
    clear p q ee
    rcases s1 with p1 | ⟨p1, p2⟩ | p1
    all_goals
     go_enter Try.func47, Try.ntmps47
     go_wp2_with (go_at_call 28; refine (DI _).mono ?_; rintro e w' ⟨rfl, rfl⟩)
     go_ret
     exact ⟨rfl, rfl⟩
 | true =>
  obtain ⟨p1, p2⟩ := e0 rfl
  rw [if_pos rfl]
  have e2 : (b - 48) % 256 = b - 48 := by omega
  go_enter Try.func47, Try.ntmps47
  go_wp2_with (go_at_call 28; refine (DI _).mono ?_; rintro e w' ⟨rfl, rfl⟩)
  go_ret
  exact ⟨rfl, rfl⟩
/-- How far blanks and remarks go. -/
def sp (s : ByteArray) (k : Nat) : Nat := s.size - (LxM.sk false (s.data.toList.drop k)).length
theorem sk_at (s : ByteArray) (m : Bool) (k : Nat) : (LxM.sk m (s.data.toList.drop k)).length ≤ s.size - k := by
 have := LxM.sk_len (s.data.toList.drop k) m
 simpa using this
theorem sk_end (s : ByteArray) (m : Bool) (k : Nat) (h : s.size ≤ k) : LxM.sk m (s.data.toList.drop k) = [] := by
 rw [drop_none s k h]; cases m <;> rfl
theorem sk_blank (s : ByteArray) (k : Nat) (h : k < s.size) (hb : LxM.bl (LxM.i s[k]) = true) : LxM.sk false (s.data.toList.drop k) = LxM.sk false (s.data.toList.drop (k + 1)) := by
 rw [drop_cons s k h, LxM.sk, if_pos hb]
theorem sk_in (s : ByteArray) (k : Nat) (h : k < s.size) (hb : s[k] ≠ 10) : LxM.sk true (s.data.toList.drop k) = LxM.sk true (s.data.toList.drop (k + 1)) := by
 rw [drop_cons s k h, LxM.sk, if_neg hb]
theorem sk_nl (s : ByteArray) (k : Nat) (h : k < s.size) (hb : s[k] = 10) : LxM.sk true (s.data.toList.drop k) = LxM.sk false (s.data.toList.drop k) := by
 rw [drop_cons s k h, LxM.sk, if_pos hb, LxM.sk, if_pos (by rw [hb]; decide)]
theorem sk_rem (s : ByteArray) (k : Nat) (h : k + 1 < s.size) (h1 : s[k] = 45) (h2 : s[k + 1] = 45) : LxM.sk false (s.data.toList.drop k) = LxM.sk true (s.data.toList.drop k) := by
 have e1 : LxM.sk false (s[k] :: s.data.toList.drop (k + 1)) = LxM.sk true (s.data.toList.drop (k + 1)) := by
  rw [LxM.sk, if_neg (by rw [h1]; decide), if_pos ⟨h1, by rw [drop_cons s (k + 1) h, LxM.hd, h2]; decide⟩]
 have e2 : LxM.sk true (s[k] :: s.data.toList.drop (k + 1)) = LxM.sk true (s.data.toList.drop (k + 1)) := by
  rw [LxM.sk, if_neg (by rw [h1]; decide)]
 rw [drop_cons s k (by omega), e1, e2]
theorem bl_iff (b : Int) : LxM.bl b = true ↔ b = 32 ∨ b = 9 ∨ b = 10 ∨ b = 13 := by simp [LxM.bl, or_assoc]
theorem exd2 (s : ByteArray) (a b : Nat) : (s.extract a b).data.toList = (s.data.toList.drop a).take (b - a) := by simp [ByteArray.data_extract, List.extract_eq_take_drop]
theorem ext_two (s : ByteArray) (k : Nat) (h : k + 1 < s.size) : (s.extract k (k + 2)).toList = [s[k], s[k + 1]] := by
 rw [Go.ByteArray.toList_eq, exd2, drop_cons s k (by omega), drop_cons s (k + 1) h, show k + 2 - k = 2 by omega]
 rfl
theorem sk_stop (s : ByteArray) (k : Nat) (h : k < s.size) (hb : LxM.bl (LxM.i s[k]) = false) (h2 : ∀ g : k + 1 < s.size, ¬ (s[k] = 45 ∧ s[k + 1] = 45)) : LxM.sk false (s.data.toList.drop k) = s.data.toList.drop k := by
 rw [drop_cons s k h, LxM.sk, if_neg (by rw [hb]; decide), if_neg]
 rintro ⟨e1, e2⟩
 by_cases g : k + 1 < s.size
 ·rw [drop_cons s (k + 1) g, LxM.hd] at e2
  refine h2 g ⟨e1, ?_⟩
  apply UInt8.toNat_inj.1
  show _ = 45
  have : ((s[k + 1].toNat : Nat) : Int) = 45 := e2
  omega
 ·rw [drop_none s (k + 1) (by omega)] at e2
  exact absurd e2 (by decide)
set_option maxHeartbeats 2000000 in
theorem rskip_any (s : ByteArray) (k : Nat) (w : World) (hk : k ≤ s.size) (hs : s.size ≤ 1048576) :
  Calls Try.prog 24 #[.string s, .int .i64 (k : Int)] w fun e w' => e = .returned (.int .i64 (sp s k : Int)) ∧ w = w' := by
 obtain ⟨r, hr⟩ : ∃ r, LxM.sk false (s.data.toList.drop k) = r := ⟨_, rfl⟩
 unfold sp
 rw [hr]
 have HR := Lib.hid hr
 clear hr
 go_enter Try.func24, Try.ntmps24
 go_wp2_with fail
 go_loopw [1] (fun i wr => ∃ j : Nat, k ≤ j ∧ j ≤ s.size ∧ i = .int .i64 j ∧ LxM.sk false (s.data.toList.drop j) = r ∧ wr = w) (fun i _ => s.size - (intOf i).toNat)
 case atStart => exact ⟨k, Nat.le_refl _, hk, rfl, HR.out, rfl⟩
 case round =>
  obtain ⟨j, hkj, hj, rfl, hrn, hwr⟩ := hrel
  obtain rfl := hwr
  have HRN := Lib.hid hrn
  have j0 : (0 : Int) ≤ (j : Int) := by omega
  clear hrn
  by_cases hlt : j < s.size
  ·have j1 : (j : Int) < (s.size : Int) := by omega
   have wk1 : wrap64 ((j : Int) + 1) = ((j + 1 : Nat) : Int) := by unfold wrap64; omega
   have wk2 : wrap64 ((j : Int) + 2) = ((j + 2 : Nat) : Int) := by unfold wrap64; omega
   obtain ⟨c, ec⟩ : ∃ c, s[j] = c := ⟨_, rfl⟩
   have EC := Lib.hid ec
   by_cases hb : LxM.bl (LxM.i c) = true
   ·have NX := Lib.hid (sk_blank s j hlt (by rw [ec]; exact hb))
    have HQ : ((c.toNat : Int) == 32) = true ∨ ((c.toNat : Int) == 32) = false ∧ ((c.toNat : Int) == 9) = true ∨ ((c.toNat : Int) == 32) = false ∧ ((c.toNat : Int) == 9) = false ∧ ((c.toNat : Int) == 10) = true ∨ ((c.toNat : Int) == 32) = false ∧ ((c.toNat : Int) == 9) = false ∧ ((c.toNat : Int) == 10) = false ∧ ((c.toNat : Int) == 13) = true := by
     simp only [beq_iff_eq, beq_eq_false_iff_ne]
     have := (bl_iff _).1 hb
     unfold LxM.i at this
     omega
    clear hb
    rcases HQ with q1 | ⟨q1, q2⟩ | ⟨q1, q2, q3⟩ | ⟨q1, q2, q3, q4⟩
    all_goals
     go_wp2_with fail
     refine ⟨⟨j + 1, by omega, hlt, by first | rfl | rw [wk1], by rw [← NX.out]; exact HRN.out, trivial⟩, by simp [intOf]; omega⟩
   ·have q1 : ((c.toNat : Int) == 32) = false := by rw [beq_eq_false_iff_ne]; intro e; exact hb ((bl_iff _).2 (by unfold LxM.i; omega))
    have q2 : ((c.toNat : Int) == 9) = false := by rw [beq_eq_false_iff_ne]; intro e; exact hb ((bl_iff _).2 (by unfold LxM.i; omega))
    have q3 : ((c.toNat : Int) == 10) = false := by rw [beq_eq_false_iff_ne]; intro e; exact hb ((bl_iff _).2 (by unfold LxM.i; omega))
    have q4 : ((c.toNat : Int) == 13) = false := by rw [beq_eq_false_iff_ne]; intro e; exact hb ((bl_iff _).2 (by unfold LxM.i; omega))
    have hb : LxM.bl (LxM.i c) = false := by simpa using hb
    have HB := Lib.hid hb
    clear hb
    by_cases hl2 : j + 1 < s.size
    ·have j2 : ((j + 1 : Nat) : Int) < (s.size : Int) := by omega
     have E2 := ext_two s j hl2
     rw [ec] at E2
     by_cases hm : c = 45 ∧ s[j + 1] = 45
     ·have e2 : ((s.extract j (j + 2)).toList == [45, 45]) = true := by rw [E2, hm.1, hm.2]; rfl
      have RE := Lib.hid (sk_rem s j hl2 (by rw [ec]; exact hm.1) hm.2)
      have c45 := hm.1
      clear hm E2
      have c45 : LxM.i c = 45 := by rw [c45]; rfl
      have C45 := Lib.hid c45
      clear c45
      go_wp2_with fail
      go_loopw [1] (fun i wr2 => ∃ i2 : Nat, j ≤ i2 ∧ i2 ≤ s.size ∧ i = .int .i64 i2 ∧ (i2 = j → LxM.i c = 45) ∧ LxM.sk true (s.data.toList.drop i2) = r ∧ wr2 = wr) (fun i _ => s.size - (intOf i).toNat)
      case atStart => exact ⟨j, Nat.le_refl _, hj, rfl, fun _ => C45.out, by rw [← RE.out]; exact HRN.out, rfl⟩
      case round =>
       obtain ⟨i2, hji, hi2, rfl, hne, hrn2, hwr2⟩ := hrel
       obtain rfl := hwr2
       have HR2 := Lib.hid hrn2
       have HNE := Lib.hid hne
       have i0 : (0 : Int) ≤ (i2 : Int) := by omega
       clear hrn2 hne
       by_cases hil : i2 < s.size
       ·have i1 : (i2 : Int) < (s.size : Int) := by omega
        have wk3 : wrap64 ((i2 : Int) + 1) = ((i2 + 1 : Nat) : Int) := by unfold wrap64; omega
        obtain ⟨x, ex⟩ : ∃ x, s[i2] = x := ⟨_, rfl⟩
        by_cases hx : x = 10
        ·have NL := Lib.hid (sk_nl s i2 hil (by rw [ex]; exact hx))
         have f1 : ((x.toNat : Int) == 10) = true := by rw [hx]; rfl
         have LT := Lib.hid (show j < i2 by
          rcases Nat.lt_or_ge j i2 with h | h
          ·exact h
          ·have : i2 = j := by omega
           subst this
           have h45 := HNE.out rfl
           rw [← EC.out, ex, hx] at h45
           exact absurd h45 (by decide))
         clear hx
         go_wp2_with fail
         have lt := LT.out
         refine ⟨⟨i2, by omega, hi2, rfl, by rw [← NL.out]; exact HR2.out, trivial⟩, by simp [intOf]; omega⟩
        ·have IN := Lib.hid (sk_in s i2 hil (by rw [ex]; exact hx))
         have f1 : ((x.toNat : Int) == 10) = false := by
          rw [beq_eq_false_iff_ne]; intro e; apply hx; apply UInt8.toNat_inj.1; show _ = 10; omega
         clear hx
         go_wp2_with fail
         refine ⟨⟨i2 + 1, by omega, hil, by first | rfl | rw [wk3], fun e => absurd e (by omega), by rw [← IN.out]; exact HR2.out, trivial⟩, by simp [intOf]; omega⟩
       ·have i1 : (s.size : Int) ≤ (i2 : Int) := by omega
        go_wp2_with fail
        have hr2 := HR2.out
        rw [sk_end s true i2 (by omega)] at hr2
        refine ⟨⟨i2, by omega, hi2, rfl, by rw [sk_end s false i2 (by omega)]; exact hr2, trivial⟩, by simp [intOf]; omega⟩
     ·have e2 : ((s.extract j (j + 2)).toList == [45, 45]) = false := by
       rw [E2, beq_eq_false_iff_ne]
       intro e
       injection e with e1 e
       injection e with e2 _
       exact hm ⟨e1, e2⟩
      have ST := Lib.hid (sk_stop s j hlt (by rw [EC.out]; exact HB.out) (fun g => by rw [EC.out]; exact hm))
      clear hm E2
      go_wp2_with fail
      go_ret
      have hrl : s.size - r.length = j := by rw [← HRN.out, ST.out]; simp; omega
      exact ⟨by rw [hrl]; rfl, rfl⟩
    ·have j2 : (s.size : Int) ≤ ((j + 1 : Nat) : Int) := by omega
     have ST := Lib.hid (sk_stop s j hlt (by rw [EC.out]; exact HB.out) (fun g => absurd g hl2))
     go_wp2_with fail
     go_ret
     have hrl : s.size - r.length = j := by rw [← HRN.out, ST.out]; simp; omega
     exact ⟨by rw [hrl]; rfl, rfl⟩
  ·obtain rfl : j = s.size := by omega
   go_wp2_with fail
   go_ret
   exact ⟨by rw [← HRN.out, sk_end s false _ (Nat.le_refl _)]; rfl, rfl⟩
end Go.Proofs.Yteakhlnnepjhpaa
/- The document's own answer: how long a sign is, a numeral's number. -/
namespace Go.Proofs.Yteakhlnnepjhpaa
open Go.RowKit
set_option linter.unusedVariables false
def twosB : List ByteArray := [⟨#[46, 46]⟩, ⟨#[61, 61]⟩, ⟨#[126, 61]⟩, ⟨#[60, 61]⟩, ⟨#[62, 61]⟩, ⟨#[47, 47]⟩]
theorem twos_data : LxM.twos = twosB.map (fun t : ByteArray => t.data.toList) := rfl
def oneB : ByteArray := ⟨#[43, 45, 42, 37, 60, 62, 61, 40, 41, 123, 125, 91, 93, 44, 46, 35, 59]⟩
/-- How long a sign is. -/
def sg (l : List UInt8) : Nat := if 2 ≤ l.length ∧ LxM.twos.contains (l.take 2) = true then 2 else if LxM.ones.contains (l.take 1) = true then 1 else 0
theorem ext_take (s : ByteArray) (k : Nat) : (s.extract k (k + 2)).data.toList = (s.data.toList.drop k).take 2 := by rw [exd2, Nat.add_sub_cancel_left]
theorem ones_in (c : UInt8) : LxM.ones.contains [c] = true ↔ ∃ i, ∃ h : i < oneB.size, oneB[i] = c := by
 have e : LxM.ones = oneB.data.toList.map fun x => [x] := rfl
 rw [e, List.contains_iff_mem, List.mem_map]
 constructor
 ·rintro ⟨x, hx, hc⟩
  injection hc with hc
  subst hc
  obtain ⟨i, hi, e⟩ := List.getElem_of_mem hx
  exact ⟨i, hi, e⟩
 ·rintro ⟨i, hi, rfl⟩
  exact ⟨_, List.getElem_mem (show i < oneB.data.toList.length from hi), rfl⟩
theorem sg_one (s : ByteArray) (k : Nat) (hk : k < s.size) (h : ¬ (2 ≤ (s.data.toList.drop k).length ∧ LxM.twos.contains ((s.data.toList.drop k).take 2) = true)) : sg (s.data.toList.drop k) = if LxM.ones.contains [s[k]] = true then 1 else 0 := by
 unfold sg
 rw [if_neg h, drop_cons s k hk]
 rfl
theorem sg_two (s : ByteArray) (k : Nat) (hk : k + 1 < s.size) (h : LxM.twos.contains ((s.data.toList.drop k).take 2) = true) : sg (s.data.toList.drop k) = 2 := by
 unfold sg
 rw [if_pos ⟨by simp; omega, h⟩]
set_option maxRecDepth 20000 in
set_option maxHeartbeats 4000000 in
theorem rsign_any (s : ByteArray) (k : Nat) (w : World) (hk : k < s.size) (hs : s.size ≤ 1048576) :
  Calls Try.prog 31 #[.string s, .int .i64 (k : Int)] w fun e w' => e = .returned (.int .i64 (sg (s.data.toList.drop k) : Int)) ∧ Below w.heap.size w w' := by
 have HT : Hid (∀ C, C = (twosB.map Value.string).toArray → Tx (w.alloc (.cells C 9)) w.heap.size twosB) := fun C hC => tx_new w twosB 9 C hC
 have HA : Hid (∀ b w, Tx w b twosB → Calls Try.prog 21 #[.slice (some ⟨b, 0, none⟩) 6 6, .string (s.extract k (k + 2))] w fun e w' => e = .returned (.bool (LxM.twos.contains (s.extract k (k + 2)).data.toList)) ∧ w = w') := fun b w h => by
  rw [twos_data, ← any_contains]; exact has_any twosB b 6 _ w h (by decide) (by decide)
 have k0 : (0 : Int) ≤ (k : Int) := by omega
 have k1 : (k : Int) < (s.size : Int) := by omega
 have wk1 : wrap64 ((k : Int) + 1) = ((k + 1 : Nat) : Int) := by unfold wrap64; omega
 have wk2 : wrap64 ((k : Int) + 2) = ((k + 2 : Nat) : Int) := by unfold wrap64; omega
 have ONE : Hid (∃ x, s[k] = x) := ⟨s[k], rfl⟩
 by_cases hl2 : k + 1 < s.size
 ·have j2 : ((k + 1 : Nat) : Int) < (s.size : Int) := by omega
  obtain ⟨tv, htv⟩ : ∃ tv, LxM.twos.contains (s.extract k (k + 2)).data.toList = tv := ⟨_, rfl⟩
  rw [htv] at HA
  have HTV := Lib.hid htv
  clear htv
  go_enter Try.func31, Try.ntmps31
  cases tv
  ·have SG : Hid (sg (s.data.toList.drop k) = if LxM.ones.contains [s[k]] = true then 1 else 0) := Lib.hid (sg_one s k hk (by rintro ⟨-, h⟩; rw [← ext_take s k, HTV.out] at h; cases h))
   go_wp2_with (go_at_call 21; refine (HA.out _ _ (HT.out _ rfl)).mono ?_; rintro e w' ⟨rfl, rfl⟩)
   go_loopw [6] (fun i wr => ∃ j : Nat, j ≤ 17 ∧ i = .int .i64 j ∧ (∀ i (h : i < j) (h2 : i < oneB.size), oneB[i] ≠ s[k]) ∧ Below w.heap.size w wr) (fun i _ => 17 - (intOf i).toNat)
   case atStart => exact ⟨0, Nat.zero_le _, rfl, (fun i h => absurd h (by omega)), (Below.refl _ _).alloc (Nat.le_refl _) _⟩
   case round =>
    obtain ⟨j, hj, rfl, hall, hb⟩ := hrel
    have HAL := Lib.hid hall
    have HB := Lib.hid hb
    have j0 : (0 : Int) ≤ (j : Int) := by omega
    clear hall hb
    by_cases hlt : j < 17
    ·have j1 : (j : Int) < 17 := by omega
     have wk3 : wrap64 ((j : Int) + 1) = ((j + 1 : Nat) : Int) := by unfold wrap64; omega
     have hjo : j < oneB.size := hlt
     obtain ⟨c, ec⟩ : ∃ c, s[k] = c := ⟨_, rfl⟩
     have EC := Lib.hid ec
     obtain ⟨x, ex⟩ : ∃ x, oneB[j] = x := ⟨_, rfl⟩
     have EX := Lib.hid ex
     clear ex
     by_cases hx : x = c
     ·have f1 : (((({ data := #[43, 45, 42, 37, 60, 62, 61, 40, 41, 123, 125, 91, 93, 44, 46, 35, 59] } : ByteArray)[j]'hjo).toNat : Int) == (c.toNat : Int)) = true := by show ((oneB[j].toNat : Int) == (c.toNat : Int)) = true; rw [EX.out, hx]; simp
      have HX := Lib.hid hx
      clear hx
      go_wp2_with fail
      go_region
      go_wp2_with fail
      go_ret
      have h1 : LxM.ones.contains [s[k]] = true := (ones_in _).2 ⟨j, hjo, by rw [EX.out, HX.out, EC.out]⟩
      exact ⟨by rw [SG.out, if_pos h1]; rfl, HB.out.drew⟩
     ·have f1 : (((({ data := #[43, 45, 42, 37, 60, 62, 61, 40, 41, 123, 125, 91, 93, 44, 46, 35, 59] } : ByteArray)[j]'hjo).toNat : Int) == (c.toNat : Int)) = false := by
       show ((oneB[j].toNat : Int) == (c.toNat : Int)) = false; rw [EX.out, beq_eq_false_iff_ne]; intro e; apply hx; apply UInt8.toNat_inj.1; omega
      have HX := Lib.hid hx
      clear hx
      go_wp2_with fail
      go_region
      go_wp2_with fail
      refine ⟨⟨j + 1, hlt, by first | rfl | rw [wk3], ?_, HB.out.drew⟩, by show 17 - ((j : Int) + 1).toNat < 17 - ((j : Int)).toNat; omega⟩
      intro i h h2
      rcases Nat.lt_or_ge i j with h3 | h3
      ·exact HAL.out i h3 h2
      ·obtain rfl : i = j := by omega
       rw [EX.out, EC.out]; exact HX.out
    ·obtain rfl : j = 17 := by omega
     go_wp2_with fail
     go_ret
     have h1 : ¬ LxM.ones.contains [s[k]] = true := fun h => by
      obtain ⟨i, h2, e⟩ := (ones_in _).1 h
      exact HAL.out i h2 h2 e
     exact ⟨by rw [SG.out, if_neg h1]; rfl, HB.out⟩
  ·have SG := Lib.hid (sg_two s k hl2 (by rw [← ext_take s k, HTV.out]))
   go_wp2_with (go_at_call 21; refine (HA.out _ _ (HT.out _ rfl)).mono ?_; rintro e w' ⟨rfl, rfl⟩)
   go_ret
   exact ⟨by rw [SG.out]; rfl, (Below.refl _ _).alloc (Nat.le_refl _) _⟩
 ·have j2 : (s.size : Int) ≤ ((k + 1 : Nat) : Int) := by omega
  have SG : Hid (sg (s.data.toList.drop k) = if LxM.ones.contains [s[k]] = true then 1 else 0) := Lib.hid (sg_one s k hk (by rintro ⟨h, -⟩; rw [List.length_drop] at h; have : s.data.toList.length = s.size := (by simp); omega))
  go_enter Try.func31, Try.ntmps31
  go_wp2_with fail
  go_loopw [6] (fun i wr => ∃ j : Nat, j ≤ 17 ∧ i = .int .i64 j ∧ (∀ i (h : i < j) (h2 : i < oneB.size), oneB[i] ≠ s[k]) ∧ Below w.heap.size w wr) (fun i _ => 17 - (intOf i).toNat)
  case atStart => exact ⟨0, Nat.zero_le _, rfl, (fun i h => absurd h (by omega)), Below.refl _ _⟩
  case round =>
   obtain ⟨j, hj, rfl, hall, hb⟩ := hrel
   have HAL := Lib.hid hall
   have HB := Lib.hid hb
   have j0 : (0 : Int) ≤ (j : Int) := by omega
   clear hall hb
   by_cases hlt : j < 17
   ·have j1 : (j : Int) < 17 := by omega
    have wk3 : wrap64 ((j : Int) + 1) = ((j + 1 : Nat) : Int) := by unfold wrap64; omega
    have hjo : j < oneB.size := hlt
    obtain ⟨c, ec⟩ : ∃ c, s[k] = c := ⟨_, rfl⟩
    have EC := Lib.hid ec
    obtain ⟨x, ex⟩ : ∃ x, oneB[j] = x := ⟨_, rfl⟩
    have EX := Lib.hid ex
    clear ex
    by_cases hx : x = c
    ·have f1 : (((({ data := #[43, 45, 42, 37, 60, 62, 61, 40, 41, 123, 125, 91, 93, 44, 46, 35, 59] } : ByteArray)[j]'hjo).toNat : Int) == (c.toNat : Int)) = true := by show ((oneB[j].toNat : Int) == (c.toNat : Int)) = true; rw [EX.out, hx]; simp
     have HX := Lib.hid hx
     clear hx
     go_wp2_with fail
     go_region
     go_wp2_with fail
     go_ret
     have h1 : LxM.ones.contains [s[k]] = true := (ones_in _).2 ⟨j, hjo, by rw [EX.out, HX.out, EC.out]⟩
     exact ⟨by rw [SG.out, if_pos h1]; rfl, HB.out.drew⟩
    ·have f1 : (((({ data := #[43, 45, 42, 37, 60, 62, 61, 40, 41, 123, 125, 91, 93, 44, 46, 35, 59] } : ByteArray)[j]'hjo).toNat : Int) == (c.toNat : Int)) = false := by
      show ((oneB[j].toNat : Int) == (c.toNat : Int)) = false; rw [EX.out, beq_eq_false_iff_ne]; intro e; apply hx; apply UInt8.toNat_inj.1; omega
     have HX := Lib.hid hx
     clear hx
     go_wp2_with fail
     go_region
     go_wp2_with fail
     refine ⟨⟨j + 1, hlt, by first | rfl | rw [wk3], ?_, HB.out.drew⟩, by show 17 - ((j : Int) + 1).toNat < 17 - ((j : Int)).toNat; omega⟩
     intro i h h2
     rcases Nat.lt_or_ge i j with h3 | h3
     ·exact HAL.out i h3 h2
     ·obtain rfl : i = j := by omega
      rw [EX.out, EC.out]; exact HX.out
   ·obtain rfl : j = 17 := by omega
    go_wp2_with fail
    go_ret
    have h1 : ¬ LxM.ones.contains [s[k]] = true := fun h => by
     obtain ⟨i, h2, e⟩ := (ones_in _).1 h
     exact HAL.out i h2 h2 e
    exact ⟨by rw [SG.out, if_neg h1]; rfl, HB.out⟩
end Go.Proofs.Yteakhlnnepjhpaa
/- The document's own answer: a numeral's number. -/
namespace Go.Proofs.Yteakhlnnepjhpaa
open Go.RowKit
set_option linter.unusedVariables false
theorem val_app (a : Nat) (l r : List UInt8) : LxM.val a (l ++ r) = LxM.val (LxM.val a l) r := List.foldl_append
theorem val_ge : ∀ (r : List UInt8) (a : Nat), a ≤ LxM.val a r
 | [], a => Nat.le_refl _
 | c :: r, a => by
  rw [LxM.val_cons']
  have := val_ge r (a * 10 + (c.toNat - 48))
  omega
theorem num_bad (s : ByteArray) (j : Nat) (h : j < s.size) (hd : LxM.dg (LxM.i s[j]) = false) : LxM.num s.data.toList = none := by
 unfold LxM.num
 rw [if_neg]
 intro ha
 rw [List.all_eq_true] at ha
 have := ha s[j] (List.getElem_mem (show j < s.data.toList.length by simpa using h))
 rw [hd] at this
 cases this
theorem num_big (s : ByteArray) (j : Nat) (h : j < s.size) (hd : 922337203685477580 < LxM.val 0 (s.data.toList.take j)) : LxM.num s.data.toList = none := by
 unfold LxM.num
 split
 ·rw [if_neg]
  have e : s.data.toList = s.data.toList.take j ++ s[j] :: s.data.toList.drop (j + 1) := by rw [← drop_cons s j h, List.take_append_drop]
  rw [e, val_app, LxM.val_cons']
  have := val_ge (s.data.toList.drop (j + 1)) (LxM.val 0 (s.data.toList.take j) * 10 + (s[j].toNat - 48))
  omega
 ·rfl
theorem take_next (s : ByteArray) (j : Nat) (h : j < s.size) : s.data.toList.take (j + 1) = s.data.toList.take j ++ [s[j]] := by
 rw [List.take_succ_eq_append_getElem (show j < s.data.toList.length by simpa using h)]
 rfl
theorem val_next (s : ByteArray) (j : Nat) (h : j < s.size) : LxM.val 0 (s.data.toList.take (j + 1)) = LxM.val 0 (s.data.toList.take j) * 10 + (s[j].toNat - 48) := by
 rw [take_next s j h, val_app, LxM.val_cons', LxM.val_nil]
/-- What whole returns. -/
def whl (x : Option Int) : Value :=
 match x with
 | some v => .tuple #[.int .i64 v, .bool true]
 | none => .tuple #[.int .i64 0, .bool false]
set_option maxHeartbeats 2000000 in
theorem rwhole_any (s : ByteArray) (w : World) (hs : s.size ≤ 1048576) :
  Calls Try.prog 29 #[.string s] w fun e w' => e = .returned (whl (LxM.num s.data.toList)) ∧ w = w' := by
 obtain ⟨r, hr⟩ : ∃ r, LxM.num s.data.toList = r := ⟨_, rfl⟩
 rw [hr]
 have HR := Lib.hid hr
 clear hr
 go_enter Try.func29, Try.ntmps29
 go_wp2_with fail
 go_loopw [4, 5] (fun n i wr => ∃ j nn : Nat, j ≤ s.size ∧ n = .int .u64 (nn : Int) ∧ i = .int .i64 j ∧ LxM.val 0 (s.data.toList.take j) = nn ∧ (s.data.toList.take j).all (fun c => LxM.dg (LxM.i c)) = true ∧ nn < 18446744073709551616 ∧ wr = w) (fun _ i _ => s.size - (intOf i).toNat)
 case atStart => exact ⟨0, 0, Nat.zero_le _, rfl, rfl, rfl, rfl, by decide, rfl⟩
 case round =>
  obtain ⟨j, nn, hj, rfl, rfl, hv, hall, hn, hwr⟩ := hrel
  obtain rfl := hwr
  have HV := Lib.hid hv
  have HALL := Lib.hid hall
  have j0 : (0 : Int) ≤ (j : Int) := by omega
  have n0 : (0 : Int) ≤ (nn : Int) := by omega
  clear hv hall
  by_cases hlt : j < s.size
  ·have j1 : (j : Int) < (s.size : Int) := by omega
   have wk1 : wrap64 ((j : Int) + 1) = ((j + 1 : Nat) : Int) := by unfold wrap64; omega
   obtain ⟨c, ec⟩ : ∃ c, s[j] = c := ⟨_, rfl⟩
   have EC := Lib.hid ec
   have DI := fun w => rdig_any c w
   cases hd : LxM.dg (LxM.i c) with
   | false =>
    rw [hd] at DI
    have NB := Lib.hid (num_bad s j hlt (by rw [ec]; exact hd))
    clear hd
    go_wp2_with (go_at_call 28; refine (DI _).mono ?_; rintro e w' ⟨rfl, rfl⟩)
    go_ret2
    exact ⟨by rw [← HR.out, NB.out]; rfl, rfl⟩
   | true =>
    rw [hd] at DI
    have c1 : 48 ≤ (c.toNat : Int) := of_decide_eq_true (Bool.and_eq_true_iff.1 hd).1
    have c2 : (c.toNat : Int) ≤ 57 := of_decide_eq_true (Bool.and_eq_true_iff.1 hd).2
    have HD := Lib.hid hd
    clear hd
    by_cases hb : 922337203685477580 < nn
    ·have n1 : (922337203685477580 : Int) < (nn : Int) := by omega
     have NB := Lib.hid (num_big s j hlt (by rw [HV.out]; exact hb))
     go_wp2_with (go_at_call 28; refine (DI _).mono ?_; rintro e w' ⟨rfl, rfl⟩)
     go_ret2
     exact ⟨by rw [← HR.out, NB.out]; rfl, rfl⟩
    ·have n1 : (nn : Int) ≤ 922337203685477580 := by omega
     have n2 : ¬ (922337203685477580 : Int) < (nn : Int) := by omega
     go_wp2_with (go_at_call 28; refine (DI _).mono ?_; rintro e w' ⟨rfl, rfl⟩)
     refine ⟨⟨j + 1, nn * 10 + (c.toNat - 48), hlt, ?_, by first | rfl | rw [wk1], ?_, ?_, by omega, trivial⟩, by simp [intOf]; omega⟩
     ·have : (((nn * 10 + (c.toNat - 48) : Nat)) : Int) = (nn : Int) * 10 + ((c.toNat : Int) - 48) := by omega
      rw [this]
     ·rw [val_next s j hlt, HV.out, ec]
     ·rw [take_next s j hlt, List.all_append, HALL.out, ec]
      simp [HD.out]
  ·obtain rfl : j = s.size := by omega
   by_cases hb : 9223372036854775807 < nn
   ·have n1 : (9223372036854775807 : Int) < (nn : Int) := by omega
    go_wp2_with fail
    go_ret2
    have NB : LxM.num s.data.toList = none := by
     have hv := HV.out
     rw [List.take_of_length_le (by simp)] at hv
     unfold LxM.num
     rw [hv]
     split
     ·rw [if_neg (by omega)]
     ·rfl
    exact ⟨by rw [← HR.out, NB]; rfl, rfl⟩
   ·have n1 : (nn : Int) ≤ 9223372036854775807 := by omega
    go_wp2_with fail
    go_ret2
    have NB : LxM.num s.data.toList = some (nn : Int) := by
     have hv := HV.out
     have ha := HALL.out
     rw [List.take_of_length_le (by simp)] at hv ha
     unfold LxM.num
     rw [hv, if_pos ha, if_pos (by omega)]
    have cv : IntKind.i64.wrap (nn : Int) = (nn : Int) := by rw [IntKind.wrap_i64]; omega
    exact ⟨by rw [← HR.out, NB]; first | rfl | (unfold whl; simp [cv]), rfl⟩
end Go.Proofs.Yteakhlnnepjhpaa
/- The document's own answer: the token that stands at a place, plain. -/
namespace Go.Proofs.Yteakhlnnepjhpaa
open Go.RowKit
set_option linter.unusedVariables false
theorem sk_suffix : ∀ (l : List UInt8) (m : Bool), LxM.sk m l <:+ l
 | [], m => by cases m <;> exact List.suffix_refl _
 | c :: r, true => by
  rw [LxM.sk]
  split
  ·exact (sk_suffix r false).trans (List.suffix_cons _ _)
  ·exact (sk_suffix r true).trans (List.suffix_cons _ _)
 | c :: r, false => by
  rw [LxM.sk]
  split
  ·exact (sk_suffix r false).trans (List.suffix_cons _ _)
  ·split
   ·exact (sk_suffix r true).trans (List.suffix_cons _ _)
   ·exact List.suffix_refl _
theorem sp_drop (s : ByteArray) (k : Nat) : s.data.toList.drop (sp s k) = LxM.sk false (s.data.toList.drop k) := by
 have h := (sk_suffix (s.data.toList.drop k) false).trans (List.drop_suffix k s.data.toList)
 have h2 := List.suffix_iff_eq_drop.1 h
 unfold sp
 have : s.data.toList.length = s.size := by simp
 rw [← this]
 exact h2.symm
theorem sp_le (s : ByteArray) (k : Nat) : sp s k ≤ s.size := by unfold sp; omega
theorem sp_ge (s : ByteArray) (k : Nat) (h : k ≤ s.size) : k ≤ sp s k := by
 have := sk_at s false k
 unfold sp; omega
theorem rn_take (s : ByteArray) (k : Nat) : (s.data.toList.drop k).takeWhile LxM.wdb = (s.extract k (rn s k)).data.toList := by
 rw [exd2]
 unfold rn
 rw [Nat.add_sub_cancel_left]
 exact List.prefix_iff_eq_take.1 (List.takeWhile_prefix _)
theorem rn_drop (s : ByteArray) (k : Nat) : (s.data.toList.drop k).dropWhile LxM.wdb = s.data.toList.drop (rn s k) := by
 unfold rn
 rw [← List.drop_drop]
 conv => rhs; arg 2; rw [← List.takeWhile_append_dropWhile (p := LxM.wdb) (l := s.data.toList.drop k)]
 rw [List.drop_left]
theorem rn_le (s : ByteArray) (k : Nat) (h : k ≤ s.size) : rn s k ≤ s.size := by
 unfold rn
 have h1 := (List.takeWhile_prefix (p := LxM.wdb) (l := s.data.toList.drop k)).length_le
 rw [List.length_drop] at h1
 have : s.data.toList.length = s.size := by simp
 omega
theorem rn_ge (s : ByteArray) (k : Nat) : k ≤ rn s k := by unfold rn; omega
theorem rn_len (s : ByteArray) (k : Nat) : ((s.data.toList.drop k).takeWhile LxM.wdb).length = rn s k - k := by unfold rn; omega
theorem rn_gt (s : ByteArray) (k : Nat) (h : k < s.size) (hw : LxM.wd (LxM.i s[k]) = true) : k < rn s k := by
 rw [rn_on h hw]; have := rn_ge s (k + 1); omega
section
variable {s : ByteArray} {k : Nat} (h : k < s.size)
include h
theorem tk_name (hl : LxM.lt (LxM.i s[k]) = true) (h32 : rn s k - k ≤ 32) : LxM.tk (s.data.toList.drop k) = some (⟨if LxM.isWord (s.extract k (rn s k)).data.toList then 1 else 2, (s.extract k (rn s k)).data.toList, 0, 0⟩, s.data.toList.drop (rn s k)) := by
 have e := drop_cons s k h
 rw [e]
 unfold LxM.tk
 dsimp only
 rw [if_pos hl, ← e]
 unfold LxM.tkW
 rw [rn_len, if_pos h32, rn_take, rn_drop]
theorem tk_long (hl : LxM.lt (LxM.i s[k]) = true) (h32 : 32 < rn s k - k) : LxM.tk (s.data.toList.drop k) = none := by
 have e := drop_cons s k h
 rw [e]
 unfold LxM.tk
 dsimp only
 rw [if_pos hl, ← e]
 unfold LxM.tkW
 rw [rn_len, if_neg (by omega)]
theorem tk_int (hl : LxM.lt (LxM.i s[k]) = false) (hd : LxM.dg (LxM.i s[k]) = true) : LxM.tk (s.data.toList.drop k) = (LxM.num (s.extract k (rn s k)).data.toList).map fun v => (⟨3, [], v, 0⟩, s.data.toList.drop (rn s k)) := by
 have e := drop_cons s k h
 rw [e]
 unfold LxM.tk
 dsimp only
 rw [if_neg (by rw [hl]; decide), if_pos hd, ← e]
 unfold LxM.tkN
 rw [rn_take, rn_drop]
theorem tk_str (hl : LxM.lt (LxM.i s[k]) = false) (hd : LxM.dg (LxM.i s[k]) = false) (hm : s[k] = 34 ∨ s[k] = 39) : LxM.tk (s.data.toList.drop k) = (LxM.qs s[k] (s.data.toList.drop (k + 1))).map fun x => (⟨4, x.1, 0, 0⟩, x.2) := by
 rw [drop_cons s k h]
 unfold LxM.tk
 dsimp only
 rw [if_neg (by rw [hl]; decide), if_neg (by rw [hd]; decide), if_pos hm]
 rfl
omit h in
theorem ones_two (l : List UInt8) (hl : l.length = 2) : LxM.isSign l = LxM.twos.contains l := by
 unfold LxM.isSign
 rw [Bool.eq_iff_iff, List.contains_iff_mem, List.contains_iff_mem, List.mem_append]
 refine ⟨fun x => x.elim id fun x => ?_, .inl⟩
 have : ∀ y ∈ LxM.ones, y.length = 1 := by decide
 have := this l x
 omega
omit h in
theorem ones_one (l : List UInt8) (hl : l.length = 1) : LxM.isSign l = LxM.ones.contains l := by
 unfold LxM.isSign
 rw [Bool.eq_iff_iff, List.contains_iff_mem, List.contains_iff_mem, List.mem_append]
 refine ⟨fun x => x.elim (fun x => ?_) id, .inr⟩
 have : ∀ y ∈ LxM.twos, y.length = 2 := by decide
 have := this l x
 omega
theorem sg_le : k + sg (s.data.toList.drop k) ≤ s.size := by
 unfold sg
 rw [List.length_drop]
 have : s.data.toList.length = s.size := by simp
 split
 ·omega
 ·split <;> omega
theorem tk_sign (hl : LxM.lt (LxM.i s[k]) = false) (hd : LxM.dg (LxM.i s[k]) = false) (hm : ¬ (s[k] = 34 ∨ s[k] = 39)) : LxM.tk (s.data.toList.drop k) = if sg (s.data.toList.drop k) = 0 then none else some (⟨5, (s.extract k (k + sg (s.data.toList.drop k))).data.toList, 0, 0⟩, s.data.toList.drop (k + sg (s.data.toList.drop k))) := by
 have e := drop_cons s k h
 have hlen : (s.data.toList.drop k).length = s.size - k := by simp
 have t : LxM.tk (s.data.toList.drop k) = LxM.tkS (s.data.toList.drop k) := by
  rw [e]
  unfold LxM.tk
  dsimp only
  rw [if_neg (by rw [hl]; decide), if_neg (by rw [hd]; decide), if_neg hm]
 rw [t]
 rw [exd2, Nat.add_sub_cancel_left, ← List.drop_drop]
 unfold LxM.tkS sg
 rw [ones_one ((s.data.toList.drop k).take 1) (by rw [List.length_take]; omega)]
 by_cases h2 : 2 ≤ (s.data.toList.drop k).length
 ·rw [ones_two ((s.data.toList.drop k).take 2) (by rw [List.length_take]; omega)]
  by_cases h3 : LxM.twos.contains ((s.data.toList.drop k).take 2) = true
  ·have hc : 2 ≤ (s.data.toList.drop k).length ∧ LxM.twos.contains ((s.data.toList.drop k).take 2) = true := ⟨h2, h3⟩
   simp only [if_pos hc]
   rfl
  ·have hc : ¬ (2 ≤ (s.data.toList.drop k).length ∧ LxM.twos.contains ((s.data.toList.drop k).take 2) = true) := fun x => h3 x.2
   simp only [if_neg hc]
   by_cases h4 : LxM.ones.contains ((s.data.toList.drop k).take 1) = true
   ·simp only [if_pos h4]; rfl
   ·simp only [if_neg h4]; rfl
 ·have hc : ¬ (2 ≤ (s.data.toList.drop k).length ∧ LxM.twos.contains ((s.data.toList.drop k).take 2) = true) := fun x => h2 x.1
  have hc2 : ¬ (2 ≤ (s.data.toList.drop k).length ∧ LxM.isSign ((s.data.toList.drop k).take 2) = true) := fun x => h2 x.1
  simp only [if_neg hc, if_neg hc2]
  by_cases h4 : LxM.ones.contains ((s.data.toList.drop k).take 1) = true
  ·simp only [if_pos h4]; rfl
  ·simp only [if_neg h4]; rfl
end
end Go.Proofs.Yteakhlnnepjhpaa
