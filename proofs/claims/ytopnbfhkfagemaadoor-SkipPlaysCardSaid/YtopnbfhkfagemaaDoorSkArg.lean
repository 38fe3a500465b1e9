/- A slice of names with scores among a law's arguments, opened. -/
import Derived.Test.YtopnbfhkfagemaaDoorLiftB
import Derived.Test.YtopnbfhkfagemaaDoorSkLaw
import Derived.SizedLaws
namespace Go.Proofs.YtopnbfhkfagemaaDoor
open Go.ChangeShapes Go.WideShapes Go.ChangeAt Go.RowKit Go.ChangeMaps
set_option linter.unusedVariables false
theorem mem_weightsAll {H : Type} {P : Program} {e : TypeId} {d : DataW H} {n : Nat} (hn : n ∈ d.weights P e) : ∀ {ds : List (DataW H)}, d ∈ ds → n ∈ DataW.weightsAll P e ds
  | [], h => by cases h
  | x :: r, h => by
    unfold DataW.weightsAll
    rcases List.mem_cons.1 h with k | k
    · subst k; exact List.mem_append_left _ hn
    · exact List.mem_append_right _ (mem_weightsAll hn k)
theorem cells1S : Tryd.prog.cellsOf 9 = 1 := by kernel_rfl
theorem cells1L : Tryd.prog.cellsOf 2 = 1 := by kernel_rfl
theorem cellsSc : Tryd.prog.cellsOf 30 = 2 := by kernel_rfl
set_option maxRecDepth 20000 in
theorem each_score {H : Type} {enc : TypeId × Value → H} {w : World} {n : Nat} {cs : List Value} {y : DataW H × List MemPlace}
    (hy : DataW.trod enc Tryd.prog w 0 (fun _ => true) true n 30 cs = some y) : ∃ (s : ByteArray) (v : Int), cs = [.string s, .int .i64 v] ∧ (Lit.int .i64 v).wf = true ∧ y.1 = .agg [.lit (.string s.data.toList), .lit (.int .i64 v)] := by
  obtain ⟨xs, m, rfl, rfl, hl, hxs, hf⟩ := DataW.trod_struct Tryd.underlying30 hy
  rw [cellsSc] at hl
  have hx2 : xs.length = 2 := hxs
  obtain ⟨p, q, rfl⟩ : ∃ p q, xs = [p, q] := by
    match xs, hx2 with
    | [p, q], _ => exact ⟨p, q, rfl⟩
  match cs, hl with
  | [a, b], _ =>
    have k0 : DataW.trod enc Tryd.prog w 0 (fun _ => true) true m 9 [a] = [p, q][0]? := by
      have q := hf 0 _ rfl
      change DataW.trod _ _ _ _ _ _ _ 9 (List.take (Tryd.prog.cellsOf 9) [a, b]) = _ at q
      rw [cells1S] at q
      exact q
    have k1 : DataW.trod enc Tryd.prog w 0 (fun _ => true) true m 2 [b] = [p, q][1]? := by
      have q := hf 1 _ rfl
      change DataW.trod _ _ _ _ _ _ _ 2 (List.take (Tryd.prog.cellsOf 2) [b]) = _ at q
      rw [cells1L] at q
      exact q
    obtain ⟨s, e0, x0, -⟩ := DataW.trod_string Tryd.underlying9 (k0.trans rfl)
    obtain ⟨v, e1, x1, w1⟩ := DataW.trod_int Tryd.underlying2 (k1.trans rfl)
    cases e0; cases e1
    refine ⟨s, v, rfl, w1, ?_⟩
    have x0 : p = _ := x0
    have x1 : q = _ := x1
    rw [x0, x1]
    rfl
theorem scores_list (Q : SkM.E → Prop) (w : World) (a : Addr) : ∀ m : Nat, (∀ i, i < m → ∃ e : SkM.E, w.cell? (a.add (i * 2)) = some (.string ⟨e.1.toArray⟩) ∧ w.cell? ((a.add (i * 2)).add 1) = some (.int .i64 e.2) ∧ Q e) → ∃ l : List SkM.E, l.length = m ∧ (∀ i (h : i < l.length), w.cell? (a.add (i * 2)) = some (.string ⟨l[i].1.toArray⟩) ∧ w.cell? ((a.add (i * 2)).add 1) = some (.int .i64 l[i].2)) ∧ ∀ e ∈ l, Q e
  | 0, _ => ⟨[], rfl, fun i h => absurd h (by simp), fun x h => by simp at h⟩
  | m + 1, h => by
    obtain ⟨l, hl, hc, hq⟩ := scores_list Q w a m fun i hi => h i (by omega)
    obtain ⟨x, h1, h2, qx⟩ := h m (by omega)
    refine ⟨l ++ [x], by simp [hl], fun i hi => ?_, fun y hy => ?_⟩
    · by_cases e : i < l.length
      · rw [List.getElem_append_left e]; exact hc i e
      · have : i = l.length := by simp at hi; omega
        subst this
        rw [List.getElem_append_right (by omega)]
        simp only [Nat.sub_self, List.getElem_cons_zero]
        rw [hl]
        exact ⟨h1, h2⟩
    · rcases List.mem_append.mp hy with k | k
      · exact hq y k
      · simp at k; subst k; exact qx
set_option maxRecDepth 20000 in
theorem open_scores {H : Type} {enc : TypeId × Value → H} {w : World} {v : Value} {d : DataW H} {ps : List MemPlace} {r : Reach} {b0 : Nat} (hv : Value.okWide Tryd.prog w r b0 22 v)
    (h : DataW.Trod enc Tryd.prog w 0 (fun _ => true) true 22 v d ps) (hz : ∀ n ∈ d.weights Tryd.prog 22, n ≤ reachBytes) :
    ∃ (A : Option Addr) (l : List SkM.E) (c : Nat), v = .slice A l.length c ∧ (A = none → c = 0) ∧ l.length ≤ c ∧ c ≤ maxLen ∧ SList w (.slice A l.length c) l ∧ ∀ y ∈ l, y.1.length ≤ lim ∧ (Lit.int .i64 y.2).wf = true := by
  obtain ⟨fuel, hf⟩ := h
  have hcell : v.cells.toList = [v] := by
    obtain ⟨a, n, c, rfl⟩ := okWide_slice Tryd.underlying22 hv
    rfl
  rcases DataW.trod_slice Tryd.underlying22 hf with ⟨h0, _⟩ | ⟨a, len, cap, elems, rest, n, _, h0, hx, _, hl, hm, hlen, hel, _⟩
  · have e : v = .slice none 0 0 := by rw [hcell] at h0; simpa using h0
    exact ⟨none, [], 0, e, fun _ => rfl, Nat.zero_le _, Nat.zero_le _, ⟨none, 0, rfl, fun _ => rfl, Nat.zero_le _, fun i hi => absurd hi (by simp)⟩, fun x hx => by simp at hx⟩
  · have ev : v = .slice (some a) len cap := by rw [hcell] at h0; simpa using h0
    have ed : d = .slice (elems.map (·.1)) (rest.map (·.1)) := (Prod.mk.inj hx).1
    have one : ∀ i, i < len → ∃ e : SkM.E, w.cell? (a.add (i * 2)) = some (.string ⟨e.1.toArray⟩) ∧ w.cell? ((a.add (i * 2)).add 1) = some (.int .i64 e.2) ∧ (e.1.length ≤ lim ∧ (Lit.int .i64 e.2).wf = true) := fun i hi => by
      have k := hel i hi
      have hi' : i < elems.length := by omega
      rw [cellsSc, List.getElem?_eq_getElem hi', Option.bind_eq_some_iff] at k
      obtain ⟨cs', hcs, hy⟩ := k
      obtain ⟨s, u, rfl, wu, ey⟩ := each_score hy
      obtain ⟨_, _, hat⟩ := World.cells?_some hcs
      have c0 := hat 0 (by decide)
      have c1 := hat 1 (by decide)
      rw [show (a.add (i * 2)).add 0 = a.add (i * 2) by simp [Addr.add]] at c0
      refine ⟨(s.data.toList, u), c0, c1, ?_, wu⟩
      have m : (DataW.agg [.lit (.string s.data.toList), .lit (.int .i64 u)] : DataW H) ∈ elems.map (·.1) := List.mem_map.2 ⟨elems[i], List.getElem_mem hi', ey⟩
      have mw : s.data.toList.length ∈ DataW.weightsAll Tryd.prog 30 (elems.map (·.1)) := mem_weightsAll (by simp [DataW.weights, Tryd.underlying30, DataW.weightsEach]) m
      have := hz s.data.toList.length (by
        rw [ed]
        simp only [DataW.weights, Tryd.underlying22, List.mem_cons, List.mem_append]
        exact .inr (.inl mw))
      have b := reachBytes_lt
      show s.data.toList.length ≤ lim
      unfold lim
      omega
    obtain ⟨l, ll, lc, lq⟩ := scores_list _ w a len one
    refine ⟨some a, l, cap, by rw [ev, ll], (fun e => nomatch e), by omega, hm, ⟨some a, cap, rfl, fun e => (nomatch e), by omega, fun i hi => ?_⟩, lq⟩
    have k := lc i hi
    have b := cell_lt k.1
    rw [add_block] at b
    exact ⟨a, rfl, b, k.1, k.2⟩
end Go.Proofs.YtopnbfhkfagemaaDoor
