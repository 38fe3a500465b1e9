/- Texts as bodies: the first j of them, their frames one behind the other. -/
import Derived.Test.YtmikdnjjnadimaaRecI
namespace Go.Proofs.Ytmikdnjjnadimaa
open Go.RowKit
set_option linter.unusedVariables false
/-- The texts, the first j of them. -/
def tx (l : List ByteArray) (j : Nat) : List (List UInt8) := (l.map fun b => b.data.toList).take j
theorem tx_snoc {l : List ByteArray} {j : Nat} (h : j < l.length) : tx l (j + 1) = tx l j ++ [l[j].data.toList] := by
  unfold tx
  rw [List.take_add_one, List.getElem?_map, List.getElem?_eq_getElem h]
  rfl
theorem tx_take (l : List ByteArray) (i j : Nat) (h : i ≤ j) : (tx l j).take i = tx l i := by
  unfold tx
  rw [List.take_take, Nat.min_eq_left h]
theorem tx_length {l : List ByteArray} {j : Nat} (h : j ≤ l.length) : (tx l j).length = j := by
  unfold tx; rw [List.length_take, List.length_map]; omega
theorem tx_at {l : List ByteArray} {j i : Nat} (h : i < (tx l j).length) : ∃ k : i < l.length, (tx l j)[i] = l[i].data.toList := by
  have h' := h
  unfold tx at h'
  rw [List.length_take, List.length_map] at h'
  exact ⟨by omega, by simp [tx]⟩
/-- What holds of the first j texts. -/
structure CAt (l : List ByteArray) (j : Nat) (s : List UInt8) : Prop where
  j1 : j ≤ l.length
  sm : ∀ x ∈ tx l j, x.length ≤ 300
  s1 : s = Rec.frs (tx l j)
  s2 : s.length ≤ 308 * j
theorem CAt.next {l : List ByteArray} {j : Nat} {s : List UInt8} (h : CAt l j s) (hj : j < l.length) (hx : l[j].size ≤ 300) : CAt l (j + 1) (s ++ Rec.fr l[j].data.toList) := by
  have hl : l[j].data.toList.length = l[j].size := by simp
  refine ⟨hj, fun x hx' => ?_, by rw [tx_snoc hj, Rec.frs_snoc, h.s1], ?_⟩
  · rw [tx_snoc hj] at hx'
    rcases List.mem_append.1 hx' with k | k
    · exact h.sm x k
    · rw [List.mem_singleton.1 k, hl]; exact hx
  · have := h.s2
    rw [List.length_append, Rec.fr_length, hl]; omega
end Go.Proofs.Ytmikdnjjnadimaa
