/- A slice of operations among a law's arguments, opened: five cells each. -/
import Derived.Test.YtopnbfhkfagemaaDoorLiftB
namespace Go.Proofs.YtopnbfhkfagemaaDoor
open Go.ChangeShapes Go.WideShapes Go.ChangeAt Go.RowKit Go.ChangeMaps
set_option linter.unusedVariables false
structure OpV where
  k : Int
  i : Int
  j : Int
  name : ByteArray
  x : Int
def OpV.vals (o : OpV) : List Value := [.int .i64 o.k, .int .i64 o.i, .int .i64 o.j, .string o.name, .int .i64 o.x]
structure OpV.Ok (o : OpV) : Prop where
  k : (Lit.int .i64 o.k).wf = true
  i : (Lit.int .i64 o.i).wf = true
  j : (Lit.int .i64 o.j).wf = true
  x : (Lit.int .i64 o.x).wf = true
def OpRow (w : World) (A : Option Addr) (l : List OpV) : Prop := ∀ i (h : i < l.length), ∃ p : Addr, A = some p ∧ p.block < w.heap.size ∧ ∀ j, j < 5 → w.cell? ((p.add (i * 5)).add j) = (l[i].vals)[j]?
theorem cells1I' : Tryd.prog.cellsOf 3 = 1 := by kernel_rfl
theorem cells1L' : Tryd.prog.cellsOf 2 = 1 := by kernel_rfl
theorem cells1S' : Tryd.prog.cellsOf 9 = 1 := by kernel_rfl
theorem cellsOp : Tryd.prog.cellsOf 32 = 5 := by kernel_rfl
set_option maxRecDepth 20000 in
theorem each_op {H : Type} {enc : TypeId × Value → H} {w : World} {n : Nat} {cs : List Value} {y : DataW H × List MemPlace}
    (hy : DataW.trod enc Tryd.prog w 0 (fun _ => true) true n 32 cs = some y) : ∃ o : OpV, cs = o.vals ∧ o.Ok := by
  obtain ⟨xs, m, rfl, -, hl, hxs, hf⟩ := DataW.trod_struct Tryd.underlying32 hy
  rw [cellsOp] at hl
  have hx3 : xs.length = 5 := hxs
  match cs, hl with
  | [a, b, c, d, e], _ =>
    have k0 : DataW.trod enc Tryd.prog w 0 (fun _ => true) true m 3 [a] = xs[0]? := by
      have q := hf 0 _ rfl
      change DataW.trod _ _ _ _ _ _ _ 3 (List.take (Tryd.prog.cellsOf 3) [a, b, c, d, e]) = _ at q
      rw [cells1I'] at q
      exact q
    have k1 : DataW.trod enc Tryd.prog w 0 (fun _ => true) true m 3 [b] = xs[1]? := by
      have q := hf 1 _ rfl
      change DataW.trod _ _ _ _ _ _ _ 3 (List.take (Tryd.prog.cellsOf 3) [b, c, d, e]) = _ at q
      rw [cells1I'] at q
      exact q
    have k2 : DataW.trod enc Tryd.prog w 0 (fun _ => true) true m 3 [c] = xs[2]? := by
      have q := hf 2 _ rfl
      change DataW.trod _ _ _ _ _ _ _ 3 (List.take (Tryd.prog.cellsOf 3) [c, d, e]) = _ at q
      rw [cells1I'] at q
      exact q
    have k3 : DataW.trod enc Tryd.prog w 0 (fun _ => true) true m 9 [d] = xs[3]? := by
      have q := hf 3 _ rfl
      change DataW.trod _ _ _ _ _ _ _ 9 (List.take (Tryd.prog.cellsOf 9) [d, e]) = _ at q
      rw [cells1S'] at q
      exact q
    have k4 : DataW.trod enc Tryd.prog w 0 (fun _ => true) true m 2 [e] = xs[4]? := by
      have q := hf 4 _ rfl
      change DataW.trod _ _ _ _ _ _ _ 2 (List.take (Tryd.prog.cellsOf 2) [e]) = _ at q
      rw [cells1L'] at q
      exact q
    obtain ⟨v0, e0, -, w0⟩ := DataW.trod_int Tryd.underlying3 (k0.trans (List.getElem?_eq_getElem (by omega)))
    obtain ⟨v1, e1, -, w1⟩ := DataW.trod_int Tryd.underlying3 (k1.trans (List.getElem?_eq_getElem (by omega)))
    obtain ⟨v2, e2, -, w2⟩ := DataW.trod_int Tryd.underlying3 (k2.trans (List.getElem?_eq_getElem (by omega)))
    obtain ⟨v3, e3, -, w3⟩ := DataW.trod_string Tryd.underlying9 (k3.trans (List.getElem?_eq_getElem (by omega)))
    obtain ⟨v4, e4, -, w4⟩ := DataW.trod_int Tryd.underlying2 (k4.trans (List.getElem?_eq_getElem (by omega)))
    cases e0; cases e1; cases e2; cases e3; cases e4
    exact ⟨⟨v0, v1, v2, v3, v4⟩, rfl, ⟨w0, w1, w2, w4⟩⟩
theorem ops_list (w : World) (a : Addr) : ∀ m : Nat, (∀ i, i < m → ∃ o : OpV, (∀ j, j < 5 → w.cell? ((a.add (i * 5)).add j) = (o.vals)[j]?) ∧ o.Ok) → ∃ l : List OpV, l.length = m ∧ (∀ i (h : i < l.length) j, j < 5 → w.cell? ((a.add (i * 5)).add j) = (l[i].vals)[j]?) ∧ ∀ o ∈ l, o.Ok
  | 0, _ => ⟨[], rfl, fun i h => absurd h (by simp), fun x h => by simp at h⟩
  | m + 1, h => by
    obtain ⟨l, hl, hc, hq⟩ := ops_list w a m fun i hi => h i (by omega)
    obtain ⟨x, hx, qx⟩ := h m (by omega)
    refine ⟨l ++ [x], by simp [hl], fun i hi => ?_, fun y hy => ?_⟩
    · by_cases e : i < l.length
      · rw [List.getElem_append_left e]; exact hc i e
      · have : i = l.length := by simp at hi; omega
        subst this
        rw [List.getElem_append_right (by omega)]
        simpa [hl] using hx
    · rcases List.mem_append.mp hy with k | k
      · exact hq y k
      · simp at k; subst k; exact qx
set_option maxRecDepth 20000 in
theorem open_ops {H : Type} {enc : TypeId × Value → H} {w : World} {v : Value} {d : DataW H} {ps : List MemPlace} {r : Reach} {b0 : Nat}
    (hv : Value.okWide Tryd.prog w r b0 23 v) (h : DataW.Trod enc Tryd.prog w 0 (fun _ => true) true 23 v d ps) :
    ∃ (A : Option Addr) (l : List OpV) (c : Nat), v = .slice A l.length c ∧ (A = none → c = 0) ∧ l.length ≤ c ∧ c ≤ maxLen ∧ OpRow w A l ∧ ∀ o ∈ l, o.Ok := by
  obtain ⟨fuel, hf⟩ := h
  have hcell : v.cells.toList = [v] := by
    obtain ⟨a, n, c, rfl⟩ := okWide_slice Tryd.underlying23 hv
    rfl
  rcases DataW.trod_slice Tryd.underlying23 hf with ⟨h0, _⟩ | ⟨a, len, cap, elems, rest, n, _, h0, _, _, hl, hm, hlen, hel, _⟩
  · have e : v = .slice none 0 0 := by rw [hcell] at h0; simpa using h0
    exact ⟨none, [], 0, e, fun _ => rfl, Nat.zero_le _, Nat.zero_le _, (fun i hi => absurd hi (by simp)), fun x hx => by simp at hx⟩
  · have ev : v = .slice (some a) len cap := by rw [hcell] at h0; simpa using h0
    have one : ∀ i, i < len → ∃ o : OpV, (∀ j, j < 5 → w.cell? ((a.add (i * 5)).add j) = (o.vals)[j]?) ∧ o.Ok := fun i hi => by
      have k := hel i hi
      rw [cellsOp, List.getElem?_eq_getElem (by omega), Option.bind_eq_some_iff] at k
      obtain ⟨cs', hcs, hy⟩ := k
      obtain ⟨o, rfl, qo⟩ := each_op hy
      obtain ⟨_, _, hat⟩ := World.cells?_some hcs
      exact ⟨o, hat, qo⟩
    obtain ⟨l, ll, lc, lq⟩ := ops_list w a len one
    refine ⟨some a, l, cap, by rw [ev, ll], (fun e => nomatch e), by omega, hm, fun i hi => ?_, lq⟩
    have b := cell_lt ((lc i hi 0 (by omega)).trans (show (l[i].vals)[0]? = some _ from rfl))
    rw [add_block, add_block] at b
    exact ⟨a, rfl, b, lc i hi⟩
end Go.Proofs.YtopnbfhkfagemaaDoor
