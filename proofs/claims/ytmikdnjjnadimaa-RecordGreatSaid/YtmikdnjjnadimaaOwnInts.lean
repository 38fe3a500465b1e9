/- A row of the call's own: kept while only new memory is made; read as cells; an int appended to it. -/
import Derived.Test.YtmikdnjjnadimaaBytes
import Derived.Test.YtmikdnjjnadimaaSlices
namespace Go.Proofs.Ytmikdnjjnadimaa
open Go.RowKit
set_option linter.unusedVariables false
theorem own_keep {w w' : World} {base : Nat} {e : TypeId} {k n : Nat} {v : Value} {xs : List Value} (h : w.ownsRow base e k v n xs) (hb : Below w.heap.size w w') : w'.ownsRow base e k v n xs := by
  refine ⟨h.1, ?_⟩
  rcases h.2 with x | ⟨g, cap, cur, hv, hg, hh, rest⟩
  · exact .inl x
  · refine .inr ⟨g, cap, cur, hv, hg, ?_, rest⟩
    have hlt : g < w.heap.size := by
      rcases Nat.lt_or_ge g w.heap.size with k | k
      · exact k
      · rw [Array.getElem?_eq_none k] at hh; cases hh
    rw [hb.block g hlt, hh]
theorem own_row {w : World} {base : Nat} {e : TypeId} {n : Nat} {v : Value} {xs : List Value} (h : w.ownsRow base e 1 v n xs) : ∃ A c, v = .slice A n c ∧ xs.length = n ∧ (A = none → c = 0) ∧ n ≤ c ∧ Row w A xs := by
  have hn : xs.length = n := by have := h.1; omega
  rcases h.2 with ⟨rfl, h0⟩ | ⟨g, cap, cur, rfl, hg, hb, hc, _, hs, ht⟩
  · subst h0
    exact ⟨none, 0, rfl, hn, fun _ => rfl, Nat.le_refl _, fun i hi => absurd hi (by omega)⟩
  · refine ⟨_, cap, rfl, hn, (fun e => nomatch e), hc, fun i hi => ?_⟩
    have hlt : g < w.heap.size := by
      rcases Nat.lt_or_ge g w.heap.size with k | k
      · exact k
      · rw [Array.getElem?_eq_none k] at hb; cases hb
    exact ⟨_, rfl, hlt, h.cells (g := g) rfl i _ (List.getElem?_eq_getElem hi)⟩
theorem cell_new (w : World) (u : Value) (t : TypeId) : (w.alloc (.cells #[u] t)).cell? ⟨w.heap.size, 0, none⟩ = some u := by
  unfold World.cell?
  rw [heap_alloc_new]
  rfl
theorem infoInt : (Try.prog.info? 3).map (fun i => (i.zero, i.size, i.bytes)) = some (some (.int .i64 0), 1, 8) := by kernel_rfl
theorem wpList_append_int {w : World} {ops : Array Oper} {rest : List Oper} {o : Oper} {a : Act} {Q : Exit → Act → World → Prop} (hgd : o.guard = none) (s x : Operand)
    (ho : o.op = .call { callee := .builtin .append, args := #[s, x], argTypes := #[24, 24] })
    (w0 : World) (v : Value) (n : Nat) (xs : List Value) (hs : a.eval s = v) (hown : w.ownsRow w0.heap.size 3 1 v n xs) (hb : Below w0.heap.size w0 w)
    (p : Addr) (c : Nat) (y : Int) (hx : a.eval x = .slice (some p) 1 c) (hc : w.cell? p = some (.int .i64 y)) (h63 : n ≤ 1099511627776)
    (h : ∀ v' w', w'.ownsRow w0.heap.size 3 1 v' (n + 1) (xs ++ [.int .i64 y]) → Below w0.heap.size w0 w' → wpList Try.prog ops Q rest (a.put o.dst v') w') :
    wpList Try.prog ops Q (o :: rest) a w := by
  obtain ⟨i, hi, hz, h1, h2⟩ := info_parts infoInt
  refine wpList_append_own_at w hgd s x 24 ho w0.heap.size 3 i _ 1 8 Try.underlying24 hi hz h1 h2 rfl (by decide) v n xs hs hown p 1 c [.int .i64 y] hx rfl (fun j u hu => ?_) (fun u hu => by simp at hu; subst hu; rfl) (by unfold maxLen; omega) (by omega) hb.size fun v' w' g1 g2 _ _ => h v' w' g1 (hb.grown g2 hb.size fun j hj => (hown.lt j hj).1)
  obtain ⟨hj, rfl⟩ := List.getElem?_eq_some_iff.1 hu
  have : j = 0 := by simpa using hj
  subst this
  rw [show p.add 0 = p by simp [Addr.add]]
  exact hc
theorem infoStr : (Try.prog.info? 9).map (fun i => (i.zero, i.size, i.bytes)) = some (some (.string ⟨#[]⟩), 1, 16) := by kernel_rfl
theorem wpList_append_str {w : World} {ops : Array Oper} {rest : List Oper} {o : Oper} {a : Act} {Q : Exit → Act → World → Prop} (hgd : o.guard = none) (s x : Operand)
    (ho : o.op = .call { callee := .builtin .append, args := #[s, x], argTypes := #[22, 22] })
    (w0 : World) (v : Value) (n : Nat) (xs : List Value) (hs : a.eval s = v) (hown : w.ownsRow w0.heap.size 9 1 v n xs) (hb : Below w0.heap.size w0 w)
    (p : Addr) (c : Nat) (y : ByteArray) (hx : a.eval x = .slice (some p) 1 c) (hc : w.cell? p = some (.string y)) (h63 : n ≤ 1099511627776)
    (h : ∀ v' w', w'.ownsRow w0.heap.size 9 1 v' (n + 1) (xs ++ [.string y]) → Below w0.heap.size w0 w' → wpList Try.prog ops Q rest (a.put o.dst v') w') :
    wpList Try.prog ops Q (o :: rest) a w := by
  obtain ⟨i, hi, hz, h1, h2⟩ := info_parts infoStr
  refine wpList_append_own_at w hgd s x 22 ho w0.heap.size 9 i _ 1 16 Try.underlying22 hi hz h1 h2 rfl (by decide) v n xs hs hown p 1 c [.string y] hx rfl (fun j u hu => ?_) (fun u hu => by simp at hu; subst hu; rfl) (by unfold maxLen; omega) (by omega) hb.size fun v' w' g1 g2 _ _ => h v' w' g1 (hb.grown g2 hb.size fun j hj => (hown.lt j hj).1)
  obtain ⟨hj, rfl⟩ := List.getElem?_eq_some_iff.1 hu
  have : j = 0 := by simpa using hj
  subst this
  rw [show p.add 0 = p by simp [Addr.add]]
  exact hc
end Go.Proofs.Ytmikdnjjnadimaa
