/- The law's own list beside a row: the two side by side, calls, appends. -/
import Derived.Test.YteghokakjonblaaChLaw
import Derived.Maps.AppendAt
namespace Go.Proofs.Yteghokakjonblaa
open Go.RowKit Go.Lib
set_option linter.unusedVariables false
/-- A row of texts of the call's own that is not nil. -/
def Mine (base : Nat) (w : World) (v : Value) (l : List ByteArray) : Prop := OwnTx base w v l ∧ v.ownBlock ≠ none
section
variable {base : Nat} {w w' : World} {v : Value} {l k : List ByteArray}
theorem Mine.slice (h : Mine base w v l) : ∃ g c, v = .slice (some ⟨g, 0, none⟩) l.length c ∧ IsTx w (some ⟨g, 0, none⟩) l c ∧ base ≤ g ∧ g < w.heap.size := by
  obtain ⟨A, c, e, it, r⟩ := h.1.slice
  rcases h.1.2 with ⟨rfl, _⟩ | ⟨g, cap, cur, rfl, hg, _⟩
  · exact absurd rfl h.2
  · injection e with e1 e2 e3
    subst e1 e3
    exact ⟨g, cap, rfl, it, r _ rfl⟩
theorem Mine.keep (h : Mine base w v l) (b : Below w.heap.size w w') : Mine base w' v l := ⟨h.1.keep b, h.2⟩
theorem mine_new (g : Nat) (hb : base ≤ g) (hl : l.length ≤ 1048576) (h : w.heap[g]? = some (.cells (l.map Value.string).toArray 9)) : Mine base w (.slice (some ⟨g, 0, none⟩) l.length l.length) l :=
  ⟨⟨by simp, .inr ⟨g, l.length, _, rfl, hb, h, Nat.le_refl _, by unfold maxLen; omega, by simp, by rw [Nat.mul_one]; exact List.take_of_length_le (by simp)⟩⟩, fun e => nomatch e⟩
theorem mine_none (g : Nat) (hb : base ≤ g) (h : w.heap[g]? = some (.cells #[] 9)) : Mine base w (.slice (some ⟨g, 0, none⟩) 0 0) [] := mine_new (l := []) g hb (by simp) h
theorem mine_one (g : Nat) (s : ByteArray) (hb : base ≤ g) (h : w.heap[g]? = some (.cells #[.string s] 9)) : Mine base w (.slice (some ⟨g, 0, none⟩) 1 1) [s] := mine_new (l := [s]) g hb (by simp) h
theorem tx_one_at (g : Nat) (s : ByteArray) (h : w.heap[g]? = some (.cells #[.string s] 9)) : IsTx w (some ⟨g, 0, none⟩) [s] 1 := by
  obtain ⟨g', c', e, it, -, -⟩ := (mine_one (base := 0) g s (Nat.zero_le _) h).slice
  injection e with e1 e2 e3
  injection e1 with e1
  injection e1 with e1
  subst e1 e3
  exact it
theorem run_mine (ty : TypeId) (hown : Mine base w v k) (A : Option Addr) (n c : Nat) (hn : l.length = n) (it : IsTx w A l c) (hlen : k.length + l.length ≤ 1099511627776) (hbase : base ≤ w.heap.size) :
    ∃ v' w', (Builtin.append_ #[22, 22] ty #[v, .slice A n c]).run Try.prog w = .ok v' w' ∧ Mine base w' v' (k ++ l) ∧ Below base w w' ∧ ∀ b, b < w.heap.size → v.ownBlock ≠ some b → w'.heap[b]? = w.heap[b]? := by
  obtain ⟨i, hi, hz, h1, h2⟩ := info_parts infoTx
  subst hn
  obtain ⟨ow, nn⟩ := hown
  have ow' : w.ownsRow base 9 1 v k.length (k.map Value.string) := ow
  cases A with
  | none =>
    have e : l = [] := by
      cases l with
      | nil => rfl
      | cons c r => obtain ⟨p, e, _⟩ := it.2.2.2 0 (by simp); cases e
    subst e
    obtain rfl := it.1 rfl
    have hrun := run_append_owned_none (P := Try.prog) (w := w) base 22 ty 9 i 1 Try.underlying22 hi v k.length (k.map Value.string) ow'
    exact ⟨v, w, hrun, ⟨by rw [List.append_nil]; exact ow, nn⟩, Below.refl _ _, fun b _ _ => rfl⟩
  | some p =>
    obtain ⟨v', w', hr, g1, g2, g3, g4⟩ := run_append_own_at (P := Try.prog) w base 22 ty 9 i _ 1 16 Try.underlying22 hi hz h1 h2 rfl (by decide) v k.length (k.map Value.string) ow' p l.length c (l.map Value.string) (by simp) (fun j u hu => by
      obtain ⟨hj, rfl⟩ := List.getElem?_eq_some_iff.1 hu
      obtain ⟨q, e, _, hc⟩ := it.2.2.2 j hj
      cases e
      exact hc) (tx_one l) (by unfold maxLen; omega) (by omega) hbase
    refine ⟨v', w', hr, ⟨?_, ?_⟩, (Below.refl base w).grown g2 hbase fun j hj => (World.ownsRow.lt ow' j hj).1, fun b hb hne => g2.block b hb fun e => hne e.symm⟩
    · unfold OwnTx
      rw [List.length_append, List.map_append]
      exact g1
    · rcases g4 with x | x
      · rw [x]; exact nn
      · rw [x]; exact fun e => nomatch e
theorem wpList_mine {ops : Array Oper} {rest : List Oper} {o : Oper} {a : Act} {Q : Exit → Act → World → Prop} (hgd : o.guard = none) (s x : Operand)
    (ho : o.op = .call { callee := .builtin .append, args := #[s, x], argTypes := #[22, 22] })
    (hs : a.eval s = v) (hown : Mine base w v k) (A : Option Addr) (n c : Nat) (hx : a.eval x = .slice A n c) (hn : l.length = n) (it : IsTx w A l c)
    (hlen : k.length + l.length ≤ 1099511627776) (hbase : base ≤ w.heap.size)
    (h : ∀ v' w', Mine base w' v' (k ++ l) → Below base w w' → (∀ b, b < w.heap.size → v.ownBlock ≠ some b → w'.heap[b]? = w.heap[b]?) → wpList Try.prog ops Q rest (a.put o.dst v') w') :
    wpList Try.prog ops Q (o :: rest) a w := by
  refine wpList_plain hgd fun K hK => ?_
  obtain ⟨v', w', hr, h2, h3, h4⟩ := run_mine o.type hown A n c hn it hlen hbase
  unfold Oper.wp execOp
  simp only [ho, resolve, invoke, builtin, Sem.run_bind, Sem.run_pure, Result.andThen_ok, List.map_toArray, List.map_cons, List.map_nil, hs, hx, hr]
  exact hK _ _ (h v' w' h2 h3 h4)
theorem step_mine {ops : Array Oper} {o : Oper} {a : Act} {K : Act → World → Prop} {Q : Exit → Act → World → Prop} {E : Prop} (hgd : o.guard = none) (s x : Operand)
    (ho : o.op = .call { callee := .builtin .append, args := #[s, x], argTypes := #[22, 22] })
    (hs : a.eval s = v) (hown : Mine base w v k) (A : Option Addr) (n c : Nat) (hx : a.eval x = .slice A n c) (hn : l.length = n) (it : IsTx w A l c)
    (hlen : k.length + l.length ≤ 1099511627776) (hbase : base ≤ w.heap.size)
    (h : ∀ v' w', Mine base w' v' (k ++ l) → Below base w w' → (∀ b, b < w.heap.size → v.ownBlock ≠ some b → w'.heap[b]? = w.heap[b]?) → K (a.put o.dst v') w') :
    if Region.wanted o (yielded ops a.tmps) = true then Oper.wp Try.prog o a w K Q else E := by
  have hw : Region.wanted o (yielded ops a.tmps) = true := by simp [Region.wanted, hgd]
  rw [if_pos hw]
  obtain ⟨v', w', hr, h2, h3, h4⟩ := run_mine o.type hown A n c hn it hlen hbase
  unfold Oper.wp execOp
  simp only [ho, resolve, invoke, builtin, Sem.run_bind, Sem.run_pure, Result.andThen_ok, List.map_toArray, List.map_cons, List.map_nil, hs, hx, hr]
  exact h v' w' h2 h3 h4
end
theorem heap1 (w : World) (A : Obj) : (w.alloc A).heap[w.heap.size]? = some A := heap_alloc_new _ _
theorem heap1_d (w : World) (A : Obj) : (w.alloc A).drew.heap[w.heap.size]? = some A := heap_alloc_new _ _
theorem heap2_old (w : World) (A B : Obj) : ((w.alloc A).alloc B).heap[w.heap.size]? = some A := (heap_alloc_old (w.alloc A) B (by simp)).trans (heap_alloc_new w A)
theorem heap2_old_d (w : World) (A B : Obj) : ((w.alloc A).alloc B).drew.heap[w.heap.size]? = some A := heap2_old w A B
theorem heap2_new (w : World) (A B : Obj) : ((w.alloc A).alloc B).heap[w.heap.size + 1]? = some B := heap_alloc2_new w A B
theorem heap2_new_d (w : World) (A B : Obj) : ((w.alloc A).alloc B).drew.heap[w.heap.size + 1]? = some B := heap_alloc2_new w A B
theorem own_ne (g : Nat) (n c b : Nat) (h : g ≠ b) : (Value.slice (some ⟨g, 0, none⟩) n c).ownBlock ≠ some b := fun e => h (Option.some.inj e)
theorem keep_old {w X w3 : World} {A B : Obj} {n c : Nat} (k : ∀ b, b < X.heap.size → (Value.slice (some ⟨w.heap.size + 1, 0, none⟩) n c).ownBlock ≠ some b → w3.heap[b]? = X.heap[b]?) (h : X.heap = ((w.alloc A).alloc B).heap) : w3.heap[w.heap.size]? = some A := by
  rw [k w.heap.size (by rw [h]; simp; omega) (own_ne _ _ _ _ (by omega)), h]
  exact heap2_old w A B
theorem keep_new {w X w3 : World} {A B : Obj} {n c : Nat} (k : ∀ b, b < X.heap.size → (Value.slice (some ⟨w.heap.size, 0, none⟩) n c).ownBlock ≠ some b → w3.heap[b]? = X.heap[b]?) (h : X.heap = ((w.alloc A).alloc B).heap) : w3.heap[w.heap.size + 1]? = some B := by
  rw [k (w.heap.size + 1) (by rw [h]; simp) (own_ne _ _ _ _ (by omega)), h]
  exact heap2_new w A B
theorem below_then_at {w W w' : World} (h : Below w.heap.size w W) (k : Below w.heap.size W w') : Below w.heap.size w w' := h.trans k
theorem below_alloc {w W : World} (h : Below w.heap.size w W) (o : Obj) : Below w.heap.size w (W.alloc o) := h.alloc h.size o
theorem add_at (g o k i : Nat) : ((⟨g, o + k, none⟩ : Addr).add i) = ((⟨g, o, none⟩ : Addr).add (k + i)) := by
  rw [Addr.add_lit, Addr.add_lit, Nat.add_assoc]
/-- A part of a slice of texts. -/
theorem IsTx.part {w : World} {g o : Nat} {l : List ByteArray} {c : Nat} (h : IsTx w (some ⟨g, o, none⟩) l c) (k m : Nat) (hk : k + m ≤ l.length) : IsTx w (some ⟨g, o + k, none⟩) ((l.drop k).take m) (c - k) := by
  refine ⟨(fun e => nomatch e), by have := h.2.1; rw [List.length_take, List.length_drop]; omega, by have := h.2.2.1; omega, fun i hi => ?_⟩
  rw [List.length_map, List.length_take, List.length_drop] at hi
  obtain ⟨p, e, hp, hc⟩ := h.2.2.2 (k + i) (by rw [List.length_map]; omega)
  injection e with e
  subst e
  refine ⟨_, rfl, hp, ?_⟩
  rw [add_at g o k i, hc, List.getElem_map, List.getElem_map, List.getElem_take, List.getElem_drop]
theorem IsTx.tail {w : World} {g o : Nat} {l : List ByteArray} {c : Nat} (h : IsTx w (some ⟨g, o, none⟩) l c) (k : Nat) (hk : k ≤ l.length) : ∃ o', (if c = k then some (⟨g, o, none⟩ : Addr) else some ⟨g, o + k, none⟩) = some ⟨g, o', none⟩ ∧ IsTx w (some ⟨g, o', none⟩) (l.drop k) (c - k) := by
  have lc := h.2.1
  by_cases e : c = k
  · refine ⟨o, by rw [if_pos e], ?_⟩
    rw [List.drop_eq_nil_of_le (by omega)]
    exact ⟨(fun e => nomatch e), Nat.zero_le _, by have := h.2.2.1; omega, fun i hi => absurd hi (by simp)⟩
  · refine ⟨o + k, by rw [if_neg e], ?_⟩
    have := h.part k (l.length - k) (by omega)
    rwa [List.take_of_length_le (by simp)] at this
/-- The same part, where no address is moved on past the end. -/
theorem IsTx.nil_ {w : World} {g o : Nat} {l : List ByteArray} {c : Nat} (h : IsTx w (some ⟨g, o, none⟩) l c) (p : Addr) (d : Nat) (hd : d ≤ c) : IsTx w (some p) [] d :=
  ⟨(fun e => nomatch e), Nat.zero_le _, by have := h.2.2.1; omega, fun i hi => absurd hi (by simp)⟩
theorem Mine.frozen {base : Nat} {w : World} {g n c : Nat} {l : List ByteArray} (h : Mine base w (.slice (some ⟨g, 0, none⟩) n c) l) (j : Nat) : w.frozen? ⟨g, j, none⟩ = false := by
  obtain ⟨h1, h2⟩ := h
  rcases h1.2 with ⟨e, _⟩ | ⟨g', cap, cur, e, _⟩
  · cases e
  · injection e with e1 e2 e3
    subst e2
    exact World.ownsRow.frozenAt h1 j
theorem IsTx.set_ {w : World} {g : Nat} {l : List ByteArray} {c : Nat} (h : IsTx w (some ⟨g, 0, none⟩) l c) (m : Nat) (hm : m < l.length) (s : ByteArray) : IsTx (w.setCell ⟨g, m, none⟩ (.string s)) (some ⟨g, 0, none⟩) (l.set m s) c := by
  have cell : ∀ i, (hi : i < l.length) → g < w.heap.size ∧ w.cell? ⟨g, i, none⟩ = some (.string l[i]) := fun i hi => by
    obtain ⟨p, e, hp, hc⟩ := h.2.2.2 i (by simpa using hi)
    injection e with e
    subst e
    rw [Addr.add_lit, Nat.zero_add] at hc
    exact ⟨hp, by rw [hc]; simp⟩
  have hs : ∀ j, j < [Value.string s].length → (w.cell? ⟨g, m + j, none⟩).isSome = true := fun j hj => by
    simp only [List.length_cons, List.length_nil] at hj
    rw [show m + j = m by omega, (cell m hm).2]; rfl
  refine ⟨h.1, by rw [List.length_set]; exact h.2.1, h.2.2.1, fun i hi => ?_⟩
  rw [List.length_map, List.length_set] at hi
  refine ⟨_, rfl, by rw [World.size_setCell]; exact (cell i hi).1, ?_⟩
  rw [Addr.add_lit, Nat.zero_add, List.getElem_map, List.getElem_set]
  by_cases e : m = i
  · subst e
    rw [if_pos rfl]
    have := World.cell?_setCells_in g [Value.string s] m w hs 0 (by simp)
    exact this
  · rw [if_neg e, World.cell?_setCell_other _ _ _ _ (fun x => by injection x with _ x; omega)]
    exact (cell i hi).2
/-- A row of texts, and the law's list in another block. -/
structure PS (w0 w : World) (q : Nat) (lr la : List ByteArray) (g o c : Nat) : Prop where
  row : ∃ R, Fine w q R ∧ flat R.cs = lr ∧ (∀ k, inRow q R k → w0.heap.size ≤ k) ∧ ¬ inRow q R g
  bel : Below w0.heap.size w0 w
  tx : IsTx w (some ⟨g, o, none⟩) la c
  lt : g < w.heap.size
section
variable {w0 w w' W : World} {q g o c : Nat} {lr la lr' la' : List ByteArray}
theorem PS.keep (h : PS w0 w q lr la g o c) (b : Below w.heap.size w w') : PS w0 w' q lr la g o c := by
  obtain ⟨⟨R, fi, fl, fk, fg⟩, hb, it, lt⟩ := h
  exact ⟨⟨R, ⟨fi.lies.below b, fi.num, fi.nice⟩, fl, fk, fg⟩, below_then hb b, it.keep b, Nat.lt_of_lt_of_le lt b.size⟩
theorem PS.other (h : PS w0 w q lr la g o c) (b : Below w.heap.size w w') {g' o' c' : Nat} (it : IsTx w' (some ⟨g', o', none⟩) la' c') (ge : w.heap.size ≤ g') (lt : g' < w'.heap.size) : PS w0 w' q lr la' g' o' c' := by
  obtain ⟨⟨R, fi, fl, fk, fg⟩, hb, -, -⟩ := h
  exact ⟨⟨R, ⟨fi.lies.below b, fi.num, fi.nice⟩, fl, fk, fun e => by have := fi.lies.in_lt e; omega⟩, below_then hb b, it, lt⟩
theorem PS.sub (h : PS w0 w q lr la g o c) {o' c' : Nat} (it : IsTx w (some ⟨g, o', none⟩) la' c') : PS w0 w q lr la' g o' c' := by
  obtain ⟨r, hb, -, lt⟩ := h
  exact ⟨r, hb, it, lt⟩
theorem ps_call (h : PS w0 w q lr la g o c) (hW : Below w.heap.size w W) {f : FuncId} {args : Array Value} {ret : Value} (k : ∀ R, Fine W q R → flat R.cs = lr → Calls Try.prog f args W fun e w' => e = .returned ret ∧ Did W q R w' lr') :
    Calls Try.prog f args W fun e w' => e = .returned ret ∧ PS w0 w' q lr' la g o c ∧ ∀ b, w.heap.size ≤ b → b < W.heap.size → w'.heap[b]? = W.heap[b]? := by
  have hW' := h.keep hW
  obtain ⟨⟨R0, fi0, fl0, fk0, fg0⟩, -, -, -⟩ := h
  have l0 : ∀ b, inRow q R0 b → b < w.heap.size := fun b e => fi0.lies.in_lt e
  obtain ⟨fi, bb⟩ : Fine W q R0 ∧ True := ⟨⟨fi0.lies.below hW, fi0.num, fi0.nice⟩, trivial⟩
  obtain ⟨-, hb, it, lt⟩ := hW'
  refine (k R0 fi fl0).mono ?_
  rintro e w' ⟨he, R', st, fi', fl'⟩
  have on := st.turn.only (F := inRow q R0) fun a e => e
  refine ⟨he, ⟨⟨R', fi', fl', fun k hk => ?_, fun e => ?_⟩, hb.trans (on.below fk0 hb.size), ?_, Nat.lt_of_lt_of_le lt on.size⟩, fun b h1 h2 => on.block b h2 fun e => by have := l0 b e; omega⟩
  · rcases st.sub k hk with x | x
    · exact fk0 k x
    · exact Nat.le_trans hb.size x
  · rcases st.sub g e with x | x
    · exact fg0 x
    · omega
  · refine ⟨it.1, it.2.1, it.2.2.1, fun i hi => ?_⟩
    obtain ⟨p, ep, hp, hc⟩ := it.2.2.2 i hi
    injection ep with ep
    subst ep
    refine ⟨_, rfl, Nat.lt_of_lt_of_le hp on.size, ?_⟩
    rw [World.cell?_of_block (w := W) (a := (⟨g, o, none⟩ : Addr).add i) (by rw [add_block]; exact on.block g hp fg0)]
    exact hc
theorem PS.fresh (h : PS w0 w q lr la g o c) : Fresh w0 w q lr := by
  obtain ⟨⟨R, fi, fl, fk, _⟩, hb, -, -⟩ := h
  exact ⟨R, fi, fl, fk, hb⟩
end
end Go.Proofs.Yteghokakjonblaa
