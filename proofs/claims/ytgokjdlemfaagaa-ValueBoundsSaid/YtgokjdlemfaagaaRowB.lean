/- Slices among a law's arguments, opened: rows of cells. -/
import Derived.Test.YtgokjdlemfaagaaLiftB
import Derived.SliceStrings
namespace Go.Proofs.Ytgokjdlemfaagaa
open Go.ChangeShapes Go.WideShapes Go.ChangeAt Go.RowKit Go.ChangeMaps

/-- The cells behind A read as these values. -/
def Row (w : World) (A : Option Addr) (l : List Value) : Prop := ∀ i (h : i < l.length), ∃ p : Addr, A = some p ∧ p.block < w.heap.size ∧ w.cell? (p.add i) = some l[i]
theorem Row.later {w w' : World} {A : Option Addr} {l : List Value} (h : Row w A l) (hb : Below w.heap.size w w') : Row w' A l := fun i hi => by
  obtain ⟨p, e, hp, hc⟩ := h i hi
  exact ⟨p, e, Nat.lt_of_lt_of_le hp hb.size, by rw [hb.cell (by rw [add_block]; exact hp)]; exact hc⟩
theorem Row.at_ {X : Type} {w : World} {A : Option Addr} {l : List X} {f : X → Value} (h : Row w A (l.map f)) (i : Nat) (hi : i < l.length) : ∃ p : Addr, A = some p ∧ p.block < w.heap.size ∧ w.cell? (p.add i) = some (f l[i]) := by
  obtain ⟨p, e, hp, hc⟩ := h i (by simpa using hi)
  exact ⟨p, e, hp, by rw [hc]; simp⟩
theorem row_list {X : Type} (f : X → Value) (Q : X → Prop) (w : World) (a : Addr) : ∀ m : Nat, (∀ i, i < m → ∃ x, w.cell? (a.add i) = some (f x) ∧ Q x) → ∃ l : List X, l.length = m ∧ (∀ i (h : i < l.length), w.cell? (a.add i) = some (f l[i])) ∧ ∀ x ∈ l, Q x
  | 0, _ => ⟨[], rfl, fun i h => absurd h (by simp), fun x h => by simp at h⟩
  | m + 1, h => by
    obtain ⟨l, hl, hc, hq⟩ := row_list f Q w a m fun i hi => h i (by omega)
    obtain ⟨x, hx, qx⟩ := h m (by omega)
    refine ⟨l ++ [x], by simp [hl], fun i hi => ?_, fun y hy => ?_⟩
    · by_cases e : i < l.length
      · rw [List.getElem_append_left e]; exact hc i e
      · have : i = l.length := by simp at hi; omega
        subst this
        rw [List.getElem_append_right (by omega)]
        simpa [hl] using hx
    · rcases List.mem_append.mp hy with k | k
      · exact hq y k
      · simp at k; subst k; exact qx
set_option maxRecDepth 20000 in
theorem open_rows {X : Type} {H : Type} {enc : TypeId × Value → H} {w : World} {v : Value} {d : DataW H} {ps : List MemPlace} {r : Reach} {b0 : Nat} {t e : TypeId} (f : X → Value) (Q : X → Prop)
    (ht : Try.prog.underlying t = some (.slice e)) (hc : Try.prog.cellsOf e = 1)
    (each : ∀ n cs y, DataW.trod enc Try.prog w 0 (fun _ => true) true n e cs = some y → ∃ x, cs = [f x] ∧ Q x)
    (hv : Value.okWide Try.prog w r b0 t v) (h : DataW.Trod enc Try.prog w 0 (fun _ => true) true t v d ps) :
    ∃ (A : Option Addr) (l : List X) (c : Nat), v = .slice A l.length c ∧ (A = none → c = 0) ∧ l.length ≤ c ∧ c ≤ maxLen ∧ Row w A (l.map f) ∧ ∀ x ∈ l, Q x := by
  obtain ⟨fuel, hf⟩ := h
  have hcell : v.cells.toList = [v] := by
    obtain ⟨a, n, c, rfl⟩ := okWide_slice ht hv
    rfl
  rcases DataW.trod_slice ht hf with ⟨h0, _⟩ | ⟨a, len, cap, elems, rest, n, _, h0, _, _, hl, hm, hlen, hel, _⟩
  · have e : v = .slice none 0 0 := by rw [hcell] at h0; simpa using h0
    exact ⟨none, [], 0, e, fun _ => rfl, Nat.zero_le _, Nat.zero_le _, (fun i hi => absurd hi (by simp)), fun x hx => by simp at hx⟩
  · have ev : v = .slice (some a) len cap := by rw [hcell] at h0; simpa using h0
    have one : ∀ i, i < len → ∃ x, w.cell? (a.add i) = some (f x) ∧ Q x := fun i hi => by
      have k := hel i hi
      rw [hc, Nat.mul_one, List.getElem?_eq_getElem (by omega), Option.bind_eq_some_iff] at k
      obtain ⟨cs', hcs, hy⟩ := k
      obtain ⟨x, rfl, qx⟩ := each _ _ _ hy
      exact ⟨x, cell_of_cells?_one hcs, qx⟩
    obtain ⟨l, ll, lc, lq⟩ := row_list f Q w a len one
    refine ⟨some a, l, cap, by rw [ev, ll], (fun e => nomatch e), by omega, hm, fun i hi => ?_, lq⟩
    have hi' : i < l.length := by simpa using hi
    have k := lc i hi'
    have b := cell_lt k
    rw [add_block] at b
    exact ⟨a, rfl, b, by rw [k]; simp⟩
end Go.Proofs.Ytgokjdlemfaagaa
