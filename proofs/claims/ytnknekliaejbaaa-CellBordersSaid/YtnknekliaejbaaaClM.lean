/- Package cell: a key that is a whole number, as a value and as the map's own key. -/
import Derived.Test.YtnknekliaejbaaaFrame
import Derived.Maps.OwnSet
import Derived.DeepKeys4
import Derived.Lib.Hide
namespace Go.Proofs.Ytnknekliaejbaaa
open Go.RowKit Go.Maps
set_option linter.unusedVariables false
/-- The key that n is. -/
abbrev Kv (n : Int) : Value := .agg #[.int .i64 2, .int .i64 n, .string ⟨#[]⟩]
theorem klaw : Keyed Try.prog 29 := Keyed.of_law (deep_law_laid (by kernel_rfl) (m := 3) (by omega) (of_decide_eq_true (by kernel_rfl)) (by kernel_rfl) (by kernel_rfl))
/-- What n's key reads as. -/
def KL (n : Int) : Lit := .string (keyBytes [.int .i64 2, .int .i64 n, .string []])
theorem key_lits {n : Int} (hw : (Lit.int .i64 n).wf = true) (d : Nat) : Try.prog.keyLits (d + 2) 29 [.int .i64 2, .int .i64 n, .string ⟨#[]⟩] = some [.int .i64 2, .int .i64 n, .string []] := by
  have h2 : (Lit.int .i64 2).wf = true := by decide
  have hz : (ByteArray.mk #[]).size ≤ maxLen := by decide
  have c3 : Try.prog.cellsOf 29 = 3 := by kernel_rfl
  have ca : Try.prog.cellsOf 3 = 1 := by kernel_rfl
  have cb : Try.prog.cellsOf 2 = 1 := by kernel_rfl
  have cc : Try.prog.cellsOf 9 = 1 := by kernel_rfl
  simp [Program.keyLits, Try.underlying29, Try.underlying3, Try.underlying2, Try.underlying9, c3, ca, cb, cc, hw, h2, hz]
theorem key_of {n : Int} (h0 : -9223372036854775808 ≤ n) (h1 : n ≤ 9223372036854775807) : keyOf Try.prog 29 (Kv n) = some (KL n) := by
  have hw : (Lit.int .i64 n).wf = true := by
    have a : IntKind.i64.min = -9223372036854775808 := rfl
    have b : IntKind.i64.max = 9223372036854775807 := rfl
    simp [Lit.wf, a, b]; omega
  have hs : ∃ d, Try.prog.types.size + 1 = d + 2 := ⟨Try.prog.types.size - 1, by have : 1 ≤ Try.prog.types.size := of_decide_eq_true (by kernel_rfl); omega⟩
  obtain ⟨d, hd⟩ := hs
  have kt : Try.prog.keyType 29 = true := by kernel_rfl
  have c3 : Try.prog.cellsOf 29 = 3 := by kernel_rfl
  simp only [keyOf, Try.underlying29]
  rw [hd, show (Kv n).cells.toList = [.int .i64 2, .int .i64 n, .string ⟨#[]⟩] from rfl, key_lits hw]
  simp [kt, Value.formed, Try.underlying29, c3, KL]
theorem KL_inj {n m : Int} (n0 : -9223372036854775808 ≤ n) (n1 : n ≤ 9223372036854775807) (m0 : -9223372036854775808 ≤ m) (m1 : m ≤ 9223372036854775807) (h : KL n = KL m) : n = m := by
  have a := klaw.inj (key_of n0 n1) (h ▸ key_of m0 m1)
  simpa using a
theorem KL_lit (n : Int) : WideAt.IsKeyLit (KL n) := by simp [WideAt.IsKeyLit, KL]
/-- An element as it stands. -/
def heldR (v : Value) : Option (DataW Value × List MemPlace) := some (.held v, [])
/-- The pointer to a block's beginning, or none. -/
def ptr (o : Option Nat) : Option Addr := o.map fun b => ⟨b, 0, none⟩
/-- The element at n's key. -/
def valAt (D : DataW Value) (n : Int) : Value := match D.atKey (KL n) (.held (.pointer none)) with | .held v => v | _ => .pointer none
/-- A whole number of 64 bits. -/
def In (n : Int) : Prop := -9223372036854775808 ≤ n ∧ n ≤ 9223372036854775807
theorem KL_ne {n k : Int} (hn : In n) (hk : In k) (h : k ≠ n) : KL k ≠ KL n := fun e => h (KL_inj hk.1 hk.2 hn.1 hn.2 e)
/-- What stands in the map: at each key the block of its slot; how many keys. -/
structure Is (D : DataW Value) (m : Int → Option Nat) (c : Nat) : Prop where
  size : Maps.size D = c
  has_ : ∀ n, In n → has D (KL n) = (m n).isSome
  val : ∀ n, In n → valAt D n = .pointer (ptr (m n))
def upd (m : Int → Option Nat) (n : Int) (o : Option Nat) : Int → Option Nat := fun k => if k = n then o else m k
theorem upd_same (m : Int → Option Nat) (n : Int) (o : Option Nat) : upd m n o n = o := if_pos rfl
theorem upd_other (m : Int → Option Nat) {n k : Int} (o : Option Nat) (h : k ≠ n) : upd m n o k = m k := if_neg h
theorem is_nil : Is (.map []) (fun _ => none) 0 := ⟨rfl, fun n _ => rfl, fun n _ => rfl⟩
section
variable {D : DataW Value} {m : Int → Option Nat} {c : Nat} {n : Int}
theorem Is.put (t : Tidy D) (h : Is D m c) (hn : In n) (k : m n = none) (b : Nat) : Is (D.put (KL n) (.held (.pointer (ptr (some b))))) (upd m n (some b)) (c + 1) := by
  refine ⟨?_, fun u hu => ?_, fun u hu => ?_⟩
  · rw [size_put t, h.has_ n hn, k, h.size]; rfl
  · by_cases e : u = n
    · subst e; rw [has_put_same t.isMap (KL_lit _), upd_same]; rfl
    · rw [has_put_other (KL_ne hn hu e), upd_other _ _ e, h.has_ u hu]
  · by_cases e : u = n
    · subst e; rw [valAt, atKey_put_same t.isMap (KL_lit _), upd_same]
    · rw [valAt, atKey_put_other (KL_ne hn hu e), upd_other _ _ e]; exact h.val u hu
theorem Is.del (t : Tidy D) (h : Is D m (c + 1)) (hn : In n) (k : (m n).isSome = true) : Is (D.del (KL n)) (upd m n none) c := by
  refine ⟨?_, fun u hu => ?_, fun u hu => ?_⟩
  · have a := size_del (k := KL n) t
    rw [h.has_ n hn, k, h.size] at a
    simpa using a
  · by_cases e : u = n
    · subst e; rw [has_del_same, upd_same]; rfl
    · rw [has_del_other (KL_ne hn hu e), upd_other _ _ e, h.has_ u hu]
  · by_cases e : u = n
    · subst e; rw [valAt, atKey_del_same, upd_same]; rfl
    · rw [valAt, atKey_del_other (KL_ne hn hu e), upd_other _ _ e]; exact h.val u hu
end
/-- A pointer that is none or leads to a block of Z. -/
def PZ (Z : Nat → Prop) (p : Option Addr) : Prop := p = none ∨ ∃ b, Z b ∧ p = some ⟨b, 0, none⟩
theorem PZ.wide {Z Y : Nat → Prop} {p : Option Addr} (h : PZ Z p) (s : ∀ b, Z b → Y b) : PZ Y p := by
  rcases h with h | ⟨b, h, e⟩
  · exact .inl h
  · exact .inr ⟨b, s b h, e⟩
/-- The border: all from 1 to b are keys, the next is none. -/
def Border (m : Int → Option Nat) (b : Nat) : Prop := (∀ j : Nat, 1 ≤ j → j ≤ b → (m j).isSome = true) ∧ m ((b : Int) + 1) = none
theorem Border.one {m : Int → Option Nat} {b d : Nat} (h : Border m b) (k : Border m d) : b = d := by
  rcases Nat.lt_trichotomy b d with e | e | e
  · have := k.1 (b + 1) (by omega) (by omega)
    rw [show ((b + 1 : Nat) : Int) = (b : Int) + 1 from by omega, h.2] at this; cases this
  · exact e
  · have := h.1 (d + 1) (by omega) (by omega)
    rw [show ((d + 1 : Nat) : Int) = (d : Int) + 1 from by omega, k.2] at this; cases this
end Go.Proofs.Ytnknekliaejbaaa
