/- Package skip: the path ahead of a name; steps of a path as values. -/
import Derived.Test.YtopnbfhkfagemaaDoorSkIns
import Derived.Test.YtopnbfhkfagemaaDoorSkWkA
namespace Go.Proofs.YtopnbfhkfagemaaDoor
open Go.RowKit
set_option linter.unusedVariables false
theorem run_step {cs : Array Value} {l : Nat} {c0 c1 : Value} (hl : l < 20) (hz : cs.size = 40) (h0 : cs[l * 2]? = some c0) (h1 : cs[l * 2 + 1]? = some c1) (W : World) : (Instr.index 79 (.agg cs) (.int .i64 (l : Int))).run Tryd.prog W = .ok (.agg #[c0, c1]) W := by
  have e : cs.extract (l * 2) (l * 2 + 2) = #[c0, c1] := by
    apply Array.ext_getElem?
    intro j
    rw [Array.getElem?_extract]
    match j with
    | 0 => rw [if_pos (by omega)]; exact h0
    | 1 => rw [if_pos (by omega)]; exact h1
    | j + 2 =>
      rw [if_neg (by omega)]
      rfl
  have l0 : (0 : Int) ≤ (l : Int) := by omega
  have a1 := Tryd.isAgg77
  have s1 := Tryd.sizeOf77
  have u1 := Tryd.underlying79
  unfold Instr.index
  simp [Sem.run_bind, asIntOf, run_underlying u1, Result.andThen, l0, part, a1, s1, e]
  intro h
  omega
theorem front_made (w : World) (s : ByteArray) (v : Int) : Calls Tryd.prog 33 #[.agg #[.string s, .int .i64 v]] w fun e w' => e = .returned (.func (.func 40) #[] #[.pointer (some ⟨w.heap.size, 0, none⟩)]) ∧ w' = w.alloc (.cells #[.string s, .int .i64 v] 30) := by
  have hmf : ∀ (fn : Fn) (first cap : Array Value) (w : World), (Instr.makeFunc fn first cap).run Tryd.prog w = .ok (.func fn first cap) w := fun _ _ _ _ => rfl
  go_enter Tryd.func33, Tryd.ntmps33
  go_wp2_with fail
  go_ret
  exact ⟨rfl, rfl⟩
theorem path_front (w : World) (q F g : Nat) (pre post : List Nd) (s : ByteArray) (v : Int) (hq : w.cell? ⟨q, 0, none⟩ = some (.pointer (some ⟨F, 0, none⟩))) (h : Body w F (pre ++ post)) (h9 : (pre ++ post).length ≤ 100000)
    (k0 : w.cell? ⟨g, 0, none⟩ = some (.string s)) (k1 : w.cell? ⟨g, 1, none⟩ = some (.int .i64 v)) (ha : ∀ y ∈ pre, SkM.lt y.e (s.data.toList, v)) (hb : ∀ y ∈ post, ¬ SkM.lt y.e (s.data.toList, v)) :
    Calls Tryd.prog 32 #[.pointer (some ⟨q, 0, none⟩), .func (.func 40) #[] #[.pointer (some ⟨g, 0, none⟩)]] w fun e w' => (∃ cs, e = .returned (.agg cs) ∧ Path F pre 0 cs) ∧ Below w.heap.size w w' := by
  refine walk_front w q F pre post hq h h9 _ fun W hW j hj => ?_
  obtain ⟨y, hy⟩ : ∃ y, (pre ++ post)[j] = y := ⟨_, rfl⟩
  have yin : y ∈ pre ++ post := by rw [← hy]; exact List.getElem_mem hj
  have n := (h.below hW).nds y yin
  rw [hy]
  refine (front_any W y.b g ⟨y.s.toArray⟩ s y.v v (.int .i64 j) n.name n.score ((hW.cell (p := ⟨g, 0, none⟩) (cell_in k0)).trans k0) ((hW.cell (p := ⟨g, 1, none⟩) (cell_in k1)).trans k1)).mono ?_
  rintro e w' ⟨rfl, hb'⟩
  refine ⟨?_, hb'⟩
  have : ahead (y.s, y.v) (s.data.toList, v) = decide (j < pre.length) := by
    unfold ahead
    by_cases hlt : j < pre.length
    · rw [decide_eq_true hlt]
      exact decide_eq_true (ha y (by rw [← hy, List.getElem_append_left hlt]; exact List.getElem_mem hlt))
    · rw [decide_eq_false hlt]
      exact decide_eq_false (hb y (by rw [← hy, List.getElem_append_right (by omega)]; exact List.getElem_mem _))
  rw [← this]
end Go.Proofs.YtopnbfhkfagemaaDoor
