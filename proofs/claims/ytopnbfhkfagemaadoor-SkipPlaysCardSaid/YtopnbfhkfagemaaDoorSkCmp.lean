/- Names with scores compared; the document's comparison of two rows of them. -/
import Derived.Test.YtopnbfhkfagemaaDoorSkLaw
namespace Go.Proofs.YtopnbfhkfagemaaDoor
open Go.RowKit
set_option linter.unusedVariables false
theorem run_neq_score (W : World) (s t : ByteArray) (v u : Int) : (binOp .neq 30 (.agg #[.string s, .int .i64 v]) (.agg #[.string t, .int .i64 u])).run Tryd.prog W = .ok (.bool (!((s.toList == t.toList) && (v == u)))) W := by
  go_simp
  by_cases h : s.toList = t.toList <;> by_cases k : v = u <;> simp [h, k]
theorem run_neq_same (W : World) (s : ByteArray) (v : Int) : (binOp .neq 30 (.agg #[.string s, .int .i64 v]) (.agg #[.string s, .int .i64 v])).run Tryd.prog W = .ok (.bool false) W := by
  rw [run_neq_score]
  simp
set_option maxRecDepth 20000 in
set_option maxHeartbeats 2000000 in
theorem scores_any (w : World) (v v' : Value) (l : List SkM.E) (h : SList w v l) (h' : SList w v' l) (hl : l.length ≤ 1000) :
    Calls Tryd.prog 16 #[v, v'] w fun e w' => e = .returned (.bool true) ∧ Below w.heap.size w w' := by
  obtain ⟨A, c, rfl, hA, hc, hr⟩ := h
  obtain ⟨A', c', rfl, hA', hc', hr'⟩ := h'
  have H1 := Lib.hid hr
  have H2 := Lib.hid hr'
  obtain ⟨n, hn⟩ : ∃ n, l.length = n := ⟨_, rfl⟩
  have HN := Lib.hid hn
  rw [hn] at hl hc hc' ⊢
  have n9 : (n : Int) ≤ 1000 := by omega
  have n0 : (0 : Int) ≤ (n : Int) := by omega
  clear hr hr' hn hA hA' hc hc' hl
  go_enter Tryd.func16, Tryd.ntmps16
  go_wp2_with fail
  go_loopw [5] (fun i wr => ∃ k : Nat, k ≤ n ∧ i = .int .i64 k ∧ Below w.heap.size w wr) (fun i _ => n - (intOf i).toNat)
  case atStart => exact ⟨0, Nat.zero_le _, rfl, Below.refl _ _⟩
  case round =>
    obtain ⟨k, hk, rfl, hb⟩ := hrel
    have HB := Lib.hid hb
    clear hb
    have k0 : (0 : Int) ≤ (k : Int) := by omega
    by_cases hlt : k < n
    · have k1 : (k : Int) < (n : Int) := by omega
      obtain ⟨p, rfl, hp, e0, e1⟩ := H1.out k (by rw [HN.out]; exact hlt)
      obtain ⟨p', rfl, hp', g0, g1⟩ := H2.out k (by rw [HN.out]; exact hlt)
      obtain ⟨s, hs⟩ : ∃ s : ByteArray, (⟨(l[k]'(by rw [HN.out]; exact hlt)).1.toArray⟩ : ByteArray) = s := ⟨_, rfl⟩
      obtain ⟨u, hu⟩ : ∃ u, (l[k]'(by rw [HN.out]; exact hlt)).2 = u := ⟨_, rfl⟩
      rw [hs] at e0 g0
      rw [hu] at e1 g1
      replace e0 : wr.cell? (p.add (k * 2)) = some (.string s) := by rw [HB.out.cell (p := p.add (k * 2)) (by rw [add_block]; exact hp)]; exact e0
      replace e1 : wr.cell? ⟨(p.add (k * 2)).block, (p.add (k * 2)).off + 1, none⟩ = some (.int .i64 u) := by rw [HB.out.cell (p := ⟨(p.add (k * 2)).block, (p.add (k * 2)).off + 1, none⟩) (by show (p.add (k * 2)).block < _; rw [add_block]; exact hp)]; exact e1
      replace g0 : wr.cell? (p'.add (k * 2)) = some (.string s) := by rw [HB.out.cell (p := p'.add (k * 2)) (by rw [add_block]; exact hp')]; exact g0
      replace g1 : wr.cell? ⟨(p'.add (k * 2)).block, (p'.add (k * 2)).off + 1, none⟩ = some (.int .i64 u) := by rw [HB.out.cell (p := ⟨(p'.add (k * 2)).block, (p'.add (k * 2)).off + 1, none⟩) (by show (p'.add (k * 2)).block < _; rw [add_block]; exact hp')]; exact g1
      have ne := run_neq_same
      clear hp hp' hs hu
      go_wp2_with fail
      go_region
      go_wp2_with fail
      exact ⟨⟨k + 1, hlt, by go_num, HB.out.drew⟩, by simp [intOf]; omega⟩
    · have k1 : (n : Int) ≤ (k : Int) := by omega
      go_wp2_with fail
      go_ret
      exact ⟨rfl, HB.out⟩
end Go.Proofs.YtopnbfhkfagemaaDoor
