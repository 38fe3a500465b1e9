/- Texts among a law's arguments, opened with their sizes' bound. -/
import Derived.Test.YteghokakjonblaaSlices
import Derived.SizedLaws
namespace Go.Proofs.Yteghokakjonblaa
open Go.ChangeShapes Go.WideShapes Go.ChangeAt Go.RowKit Go.ChangeMaps
theorem mem_weightsAll {H : Type} {P : Program} {e : TypeId} {d : DataW H} {n : Nat} (hn : n ∈ d.weights P e) : ∀ {ds : List (DataW H)}, d ∈ ds → n ∈ DataW.weightsAll P e ds
  | [], h => by cases h
  | x :: r, h => by
    unfold DataW.weightsAll
    rcases List.mem_cons.1 h with k | k
    · subst k; exact List.mem_append_left _ hn
    · exact List.mem_append_right _ (mem_weightsAll hn k)
theorem open_texts_sized {H : Type} {enc : TypeId × Value → H} {w : World} {v : Value} {d : DataW H} {ps : List MemPlace} {r : Reach} {b0 : Nat} (hv : Value.okWide Try.prog w r b0 22 v)
    (h : DataW.Trod enc Try.prog w 0 (fun _ => true) true 22 v d ps) (hz : ∀ n ∈ d.weights Try.prog 22, n ≤ reachBytes) :
    ∃ (A : Option Addr) (l : List ByteArray) (c : Nat), v = .slice A l.length c ∧ (A = none → c = 0) ∧ l.length ≤ c ∧ c ≤ maxLen ∧ Row w A (l.map Value.string) ∧ ∀ x ∈ l, x.size ≤ 281474976710656 := by
  obtain ⟨fuel, hf⟩ := h
  have hcell : v.cells.toList = [v] := by
    obtain ⟨a, n, c, rfl⟩ := okWide_slice Try.underlying22 hv
    rfl
  rcases DataW.trod_slice Try.underlying22 hf with ⟨h0, _⟩ | ⟨a, len, cap, elems, rest, n, _, h0, hx, _, hl, hm, hlen, hel, _⟩
  · have e : v = .slice none 0 0 := by rw [hcell] at h0; simpa using h0
    exact ⟨none, [], 0, e, fun _ => rfl, Nat.zero_le _, Nat.zero_le _, (fun i hi => absurd hi (by simp)), fun x hx => by simp at hx⟩
  · have ev : v = .slice (some a) len cap := by rw [hcell] at h0; simpa using h0
    have ed : d = .slice (elems.map (·.1)) (rest.map (·.1)) := (Prod.mk.inj hx).1
    have one : ∀ i, i < len → ∃ x : ByteArray, w.cell? (a.add i) = some (.string x) ∧ x.size ≤ 281474976710656 := fun i hi => by
      have k := hel i hi
      have hi' : i < elems.length := by omega
      rw [cellsS, Nat.mul_one, List.getElem?_eq_getElem hi', Option.bind_eq_some_iff] at k
      obtain ⟨cs', hcs, hy⟩ := k
      obtain ⟨s, rfl, ey, _⟩ := DataW.trod_string Try.underlying9 hy
      refine ⟨s, cell_of_cells?_one hcs, ?_⟩
      have m : (DataW.lit (.string s.data.toList) : DataW H) ∈ elems.map (·.1) := List.mem_map.2 ⟨elems[i], List.getElem_mem hi', by rw [ey]⟩
      have mw : s.data.toList.length ∈ DataW.weightsAll Try.prog 9 (elems.map (·.1)) := mem_weightsAll (by simp [DataW.weights]) m
      have := hz s.data.toList.length (by
        rw [ed]
        simp only [DataW.weights, Try.underlying22, List.mem_cons, List.mem_append]
        exact .inr (.inl mw))
      have b := reachBytes_lt
      have e2 : s.data.toList.length = s.size := by simp
      have : s.size < 140737488355328 := by rw [← e2]; omega
      omega
    obtain ⟨l, ll, lc, lq⟩ := row_list Value.string (fun s => s.size ≤ 281474976710656) w a len one
    refine ⟨some a, l, cap, by rw [ev, ll], (fun e => nomatch e), by omega, hm, fun i hi => ?_, lq⟩
    have hi' : i < l.length := by simpa using hi
    have k := lc i hi'
    have b := cell_lt k
    rw [add_block] at b
    exact ⟨a, rfl, b, by rw [k]; simp⟩
end Go.Proofs.Yteghokakjonblaa
