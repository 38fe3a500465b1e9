/- Scripts that are given: the document's parser's answer, reckoned. -/
import Derived.Test.YteakhlnnepjhpaaScOx
import Derived.Test.YteakhlnnepjhpaaScSx
import Derived.Test.YteakhlnnepjhpaaKt
namespace Go.Proofs.Yteakhlnnepjhpaa
open Go.RowKit PrM
set_option linter.unusedVariables false
set_option linter.unusedSimpArgs false
namespace LxM
/-- The tokens, by a count of steps. -/
def lexF (n : Nat) : Nat → List UInt8 → Ans
 | 0, _ => .bad 0
 | _ + 1, [] => .ok [⟨0, [], 0, n⟩]
 | k + 1, c :: r =>
  match tk (c :: r) with
  | none => .bad (n - (r.length + 1))
  | some (t, r1) => if (sk false r1).length < (c :: r).length then (lexF n k (sk false r1)).pre [{ t with at_ := n - (r.length + 1) }] else .bad 0
theorem lexF_eq (n : Nat) : ∀ (k : Nat) (l : List UInt8), l.length < k → lexF n k l = lexT n l
 | 0, l, h => absurd h (Nat.not_lt_zero _)
 | k + 1, [], _ => by rw [lexT]; rfl
 | k + 1, c :: r, h => by
  rw [lexT]
  show (match tk (c :: r) with
   | none => Ans.bad (n - (r.length + 1))
   | some (t, r1) => if (sk false r1).length < (c :: r).length then (lexF n k (sk false r1)).pre [{ t with at_ := n - (r.length + 1) }] else .bad 0) = _
  cases tk (c :: r) with
  | none => rfl
  | some x =>
   obtain ⟨t, r1⟩ := x
   dsimp only
   by_cases q : (sk false r1).length < (c :: r).length
   ·rw [if_pos q, dif_pos q, lexF_eq n k _ (by simp only [List.length_cons] at h q; omega)]
   ·rw [if_neg q, dif_neg q]
def lexC (l : List UInt8) : Ans := lexF l.length (l.length + 1) (sk false l)
theorem lexC_eq (l : List UInt8) : lexC l = lex l := by
 unfold lexC lex lexS
 exact lexF_eq _ _ _ (Nat.lt_succ_of_le (sk_len l false))
end LxM
/-- What a script is, its first error. -/
def ansS (s : ByteArray) : X × Int × Int :=
 match LxM.lexC s.data.toList with
 | .bad q => (.nil, 14, (q : Int))
 | .ok T => ((script T).1, (script T).2.code, (script T).2.at_)
def okS (s : ByteArray) : Bool := decide (s.size ≤ 2000) && (decide ((ansS s).2.1 = 0) && decide (ScM.sz (ansS s).1 ≤ 900000000000))
def noS (s : ByteArray) : Bool := decide (s.size ≤ 2000) && decide ((ansS s).2.1 ≠ 0)
theorem script_ok (W : World) {s : ByteArray} (h : okS s = true) : Calls Try.prog 6 #[.string s] W fun e W' => (∃ A c, e = .returned (.tuple #[.slice A (ansS s).1.len c, .int .i64 0, .int .i64 0]) ∧ Sl (ansS s).1.len (Rd W' (Lo W) (ansS s).1).row 5 (.slice A (ansS s).1.len c)) ∧ Below W.heap.size W W' := by
 simp only [okS, Bool.and_eq_true, decide_eq_true_eq] at h
 refine (script_any W s h.1).mono ?_
 rintro e W' ⟨hm, b⟩
 refine ⟨?_, b⟩
 have h2 := h.2.1
 unfold ansS at h2 ⊢
 rw [LxM.lexC_eq] at h2 ⊢
 cases hF : LxM.lex s.data.toList with
 | bad q => rw [hF] at h2; exact absurd h2 (show ¬ (14 : Int) = 0 by decide)
 | ok T =>
  rw [hF] at hm h2
  obtain ⟨v, rfl, sl⟩ := hm.1 h2
  obtain ⟨A, c, rfl⟩ : ∃ A c, v = .slice A (script T).1.len c := by obtain ⟨A, c, e, -⟩ := sl; exact ⟨A, c, e⟩
  exact ⟨A, c, rfl, sl⟩
theorem script_no (W : World) {s : ByteArray} (h : noS s = true) : Calls Try.prog 6 #[.string s] W fun e W' => e = .returned (.tuple #[.slice none 0 0, .int .i64 (ansS s).2.1, .int .i64 (ansS s).2.2]) ∧ Below W.heap.size W W' := by
 simp only [noS, Bool.and_eq_true, decide_eq_true_eq] at h
 refine (script_any W s h.1).mono ?_
 rintro e W' ⟨hm, b⟩
 refine ⟨?_, b⟩
 have h2 := h.2
 unfold ansS at h2 ⊢
 rw [LxM.lexC_eq] at h2 ⊢
 cases hF : LxM.lex s.data.toList with
 | bad q => rw [hF] at hm; exact hm
 | ok T =>
  rw [hF] at hm h2
  exact hm.2 h2
theorem okS_fit {s : ByteArray} (h : okS s = true) : (ansS s).1.fit 100000 := by
 simp only [okS, Bool.and_eq_true, decide_eq_true_eq] at h
 unfold ansS
 rw [LxM.lexC_eq]
 cases hF : LxM.lex s.data.toList with
 | bad q => exact trivial
 | ok T =>
  have hc := lex_count hF
  have zs : s.data.toList.length = s.size := by simp
  exact script_fits hF (by omega)
theorem okS_sz {s : ByteArray} (h : okS s = true) : ScM.sz (ansS s).1 ≤ 900000000000 := by
 simp only [okS, Bool.and_eq_true, decide_eq_true_eq] at h
 exact h.2.2
/-- A script that is given, and what package scope says of it. -/
theorem known_at (s : ByteArray) (h : okS s = true) (e a : Int) (hc : (ScM.chk (ansS s).1).err = e ∧ (ScM.chk (ansS s).1).at_ = a) (M : X) (hM : (ansS s).1 = M) :
  (∀ W : World, Calls Try.prog 6 #[.string s] W fun e W' => (∃ A c, e = .returned (.tuple #[.slice A M.len c, .int .i64 0, .int .i64 0]) ∧ Sl M.len (Rd W' (Lo W) M).row 5 (.slice A M.len c)) ∧ Below W.heap.size W W') ∧
  ∀ (W : World) (P : Nat → Prop) (v : Value), Sl M.len (Rd W P M).row 5 v → Calls Try.prog 7 #[v] W fun en w' => en = .returned (.tuple #[.int .i64 e, .int .i64 a]) ∧ Below W.heap.size W w' := by
 have k1 := fun W => script_ok W h
 have k2 := okS_fit h
 have k3 := okS_sz h
 rw [hM] at k1 k2 k3 hc
 exact ⟨k1, fun W P v sl => by rw [← hc.1, ← hc.2]; exact check_any sl k2 k3⟩
def fitB (n : Nat) : X → Bool
 | .nil => true
 | .cons h t => fitB n h && (fitB n t && decide (t.len + 1 ≤ n))
 | .e _ _ _ sv _ l fv => fitB n l && (fitB n fv && decide (sv.size ≤ n))
 | .f ps b => decide (ps.length ≤ n) && (fitB n b && ps.all fun p => decide (p.size ≤ n))
 | .s _ _ ns l b => decide (ns.length ≤ n) && (fitB n l && (fitB n b && ns.all fun p => decide (p.size ≤ n)))
 | .blk l => fitB n l
theorem fitB_fit {n : Nat} (x : X) : fitB n x = true → x.fit n := by
 induction x with
 | nil => exact fun _ => trivial
 | cons h t u v =>
  intro k
  simp only [fitB, Bool.and_eq_true, decide_eq_true_eq] at k
  exact ⟨u k.1, v k.2.1, k.2.2⟩
 | e k a m sv op l fv u v =>
  intro k
  simp only [fitB, Bool.and_eq_true, decide_eq_true_eq] at k
  exact ⟨⟨u k.1, v k.2.1⟩, k.2.2⟩
 | f ps b u =>
  intro k
  simp only [fitB, Bool.and_eq_true, decide_eq_true_eq, List.all_eq_true] at k
  exact ⟨⟨k.1, u k.2.1⟩, k.2.2⟩
 | s k a ns l b u v =>
  intro k
  simp only [fitB, Bool.and_eq_true, decide_eq_true_eq, List.all_eq_true] at k
  exact ⟨⟨k.1, u k.2.1, v k.2.2.1⟩, k.2.2.2⟩
 | blk l u => exact u
/-- "return x"; "local x = KEYS return function() return x, 1 end"; "local x = KEYS return function(a) return a + x + type end". -/
abbrev sA : ByteArray := ⟨#[114, 101, 116, 117, 114, 110, 32, 120]⟩
abbrev sB : ByteArray := ⟨#[108, 111, 99, 97, 108, 32, 120, 32, 61, 32, 75, 69, 89, 83, 32, 114, 101, 116, 117, 114, 110, 32, 102, 117, 110, 99, 116, 105, 111, 110, 40, 41, 32, 114, 101, 116, 117, 114, 110, 32, 120, 44, 32, 49, 32, 101, 110, 100]⟩
abbrev sC : ByteArray := ⟨#[108, 111, 99, 97, 108, 32, 120, 32, 61, 32, 75, 69, 89, 83, 32, 114, 101, 116, 117, 114, 110, 32, 102, 117, 110, 99, 116, 105, 111, 110, 40, 97, 41, 32, 114, 101, 116, 117, 114, 110, 32, 97, 32, 43, 32, 120, 32, 43, 32, 116, 121, 112, 101, 32, 101, 110, 100]⟩
theorem okA : okS sA = true := by decide +kernel
theorem noB : noS sB = true := by decide +kernel
theorem okC : okS sC = true := by decide +kernel
theorem chA : (ScM.chk (ansS sA).1).err = 14 ∧ (ScM.chk (ansS sA).1).at_ = 7 := by decide +kernel
theorem chC : (ScM.chk (ansS sC).1).err = 0 ∧ (ScM.chk (ansS sC).1).at_ = 0 := by decide +kernel
end Go.Proofs.Yteakhlnnepjhpaa
