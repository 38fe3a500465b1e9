/- Rows of texts of the call's own; append of texts. -/
import Derived.Test.YteghokakjonblaaRowB
import Derived.Test.YteghokakjonblaaBytes
namespace Go.Proofs.Yteghokakjonblaa
open Go.RowKit
theorem infoTx : (Try.prog.info? 9).map (fun i => (i.zero, i.size, i.bytes)) = some (some (.string ⟨#[]⟩), 1, 16) := by kernel_rfl
theorem tx_one (l : List ByteArray) : ∀ u ∈ l.map Value.string, u.oneCell' = true := by
  intro u hu
  obtain ⟨c, _, rfl⟩ := List.mem_map.1 hu
  rfl
/-- The texts of v lie in a row of the call's own. -/
def OwnTx (base : Nat) (w : World) (v : Value) (l : List ByteArray) : Prop := w.ownsRow base 9 1 v l.length (l.map Value.string)
/-- A slice of texts. -/
def IsTx (w : World) (A : Option Addr) (l : List ByteArray) (c : Nat) : Prop := (A = none → c = 0) ∧ l.length ≤ c ∧ c ≤ maxLen ∧ Row w A (l.map Value.string)
theorem OwnTx.slice {base : Nat} {w : World} {v : Value} {l : List ByteArray} (h : OwnTx base w v l) : ∃ A c, v = .slice A l.length c ∧ IsTx w A l c ∧ ∀ p, A = some p → base ≤ p.block ∧ p.block < w.heap.size := by
  rcases h.2 with ⟨rfl, h0⟩ | ⟨g, cap, cur, rfl, hg, hb, hc, hm, hs, ht⟩
  · exact ⟨none, 0, by rw [h0], ⟨fun _ => rfl, by omega, Nat.zero_le _, fun i hi => absurd hi (by simp [h0])⟩, fun p e => nomatch e⟩
  · have hlt : g < w.heap.size := by
      rcases Nat.lt_or_ge g w.heap.size with k | k
      · exact k
      · rw [Array.getElem?_eq_none k] at hb; cases hb
    refine ⟨_, cap, rfl, ⟨(fun e => nomatch e), hc, hm, fun i hi => ⟨⟨g, 0, none⟩, rfl, hlt, ?_⟩⟩, fun p e => by injection e with e; subst e; exact ⟨hg, hlt⟩⟩
    exact World.ownsRow.cells h rfl i _ (List.getElem?_eq_getElem hi)
theorem OwnTx.keep {base : Nat} {w w' : World} {v : Value} {l : List ByteArray} (h : OwnTx base w v l) (hb : Below w.heap.size w w') : OwnTx base w' v l := by
  refine ⟨h.1, ?_⟩
  rcases h.2 with e | ⟨g, cap, cur, e, hg, hc, r⟩
  · exact .inl e
  · refine .inr ⟨g, cap, cur, e, hg, ?_, r⟩
    have lt : g < w.heap.size := by
      rcases Nat.lt_or_ge g w.heap.size with k | k
      · exact k
      · rw [Array.getElem?_eq_none k] at hc; cases hc
    rw [hb.block g lt]; exact hc
/-- append of a slice of texts, nil let in, onto a row of the call's own. -/
theorem wpList_append_own_texts {w : World} {ops : Array Oper} {rest : List Oper} {o : Oper} {a : Act} {Q : Exit → Act → World → Prop} (hgd : o.guard = none) (s x : Operand)
    (ho : o.op = .call { callee := .builtin .append, args := #[s, x], argTypes := #[22, 22] })
    (base : Nat) (v : Value) (k : List ByteArray) (hs : a.eval s = v) (hown : OwnTx base w v k)
    (A : Option Addr) (c n : Nat) (l : List ByteArray) (hx : a.eval x = .slice A n c) (hn : l.length = n) (hA : A = none → c = 0) (hr : Row w A (l.map Value.string))
    (hlen : k.length + l.length ≤ 1099511627776) (hbase : base ≤ w.heap.size)
    (h : ∀ v' w', OwnTx base w' v' (k ++ l) → Below base w w' → wpList Try.prog ops Q rest (a.put o.dst v') w') :
    wpList Try.prog ops Q (o :: rest) a w := by
  obtain ⟨i, hi, hz, h1, h2⟩ := info_parts infoTx
  subst hn
  have fin : ∀ v' w', w'.ownsRow base 9 1 v' (k.length + l.length) (k.map Value.string ++ l.map Value.string) → w.grownBy w' v.ownBlock → wpList Try.prog ops Q rest (a.put o.dst v') w' := fun v' w' g1 g2 => by
    refine h v' w' ?_ ((Below.refl base w).grown g2 hbase fun j hj => (World.ownsRow.lt hown j hj).1)
    unfold OwnTx
    rw [List.length_append, List.map_append]
    exact g1
  cases A with
  | none =>
    have e : l = [] := by
      cases l with
      | nil => rfl
      | cons c r => obtain ⟨p, e, _⟩ := hr 0 (by simp); cases e
    subst e
    obtain rfl := hA rfl
    refine wpList_append_own_none hgd s x 22 ho base 9 i 1 Try.underlying22 hi v k.length (k.map Value.string) hs hown hx ?_
    refine fin v w ?_ (World.grownBy.refl w _)
    have hown' : w.ownsRow base 9 1 v k.length (k.map Value.string) := hown
    simpa using hown'
  | some p =>
    refine wpList_append_own_at w hgd s x 22 ho base 9 i _ 1 16 Try.underlying22 hi hz h1 h2 rfl (by decide) v k.length (k.map Value.string) hs hown p l.length c (l.map Value.string) hx (by simp) (fun j u hu => ?_) (tx_one l) (by unfold maxLen; omega) (by omega) hbase fun v' w' g1 g2 _ _ => fin v' w' g1 g2
    obtain ⟨hj, rfl⟩ := List.getElem?_eq_some_iff.1 hu
    obtain ⟨q, e, _, hc⟩ := hr j hj
    cases e
    exact hc
/-- make of a row of texts. -/
theorem wpList_make_texts {w : World} {ops : Array Oper} {rest : List Oper} {o : Oper} {a : Act} {Q : Exit → Act → World → Prop} (hg : o.guard = none) (l c : Operand) (hop : o.op = Op.makeSlice 22 l c)
    (base : Nat) (kl kc : IntKind) (C : Int) (n : Nat) (hl : a.eval l = .int kl 0) (hc : a.eval c = .int kc C) (hC : C = (n : Int)) (b2 : n ≤ 1099511627776) (b4 : base ≤ w.heap.size)
    (hK : ∀ w', OwnTx base w' (.slice (some ⟨w.heap.size, 0, none⟩) 0 n) [] → Below base w w' → wpList Try.prog ops Q rest (a.put o.dst (.slice (some ⟨w.heap.size, 0, none⟩) 0 n)) w') :
    wpList Try.prog ops Q (o :: rest) a w := by
  obtain ⟨i, hi, hz, h1, h2⟩ := info_parts infoTx
  exact wpList_make_own w hg l c 22 hop base 9 i _ 1 Try.underlying22 hi hz h1 kl kc C n hl hc hC (by rw [h2]; omega) (by unfold maxLen; omega) b4 fun w' o1 g => hK w' o1 ((Below.refl base w).grown g b4 fun j hj => by cases hj)
/-- An empty row that the law has written out. -/
theorem own_no_tx (w : World) (base : Nat) (h : base ≤ w.heap.size) : OwnTx base (w.alloc (.cells #[] 9)) (.slice (some ⟨w.heap.size, 0, none⟩) 0 0) [] :=
  ⟨rfl, .inr ⟨w.heap.size, 0, #[], rfl, h, by show (w.heap.push _)[w.heap.size]? = _; simp, Nat.le_refl _, Nat.zero_le _, rfl, rfl⟩⟩
end Go.Proofs.Yteghokakjonblaa
