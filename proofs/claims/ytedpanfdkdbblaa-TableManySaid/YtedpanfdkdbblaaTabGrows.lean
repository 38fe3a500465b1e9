/- The walk of the law TableGrows, out of what is asked of package table. -/
import Derived.Test.YtedpanfdkdbblaaTabI
namespace Go.Proofs.Ytedpanfdkdbblaa
open Go.RowKit
set_option linter.unusedVariables false
/-- The law's names. -/
def nm (i : Nat) : List UInt8 := [UInt8.ofNat i, UInt8.ofNat (i / 256), 120]
theorem nm_inj {i j : Nat} (hi : i < 65536) (hj : j < 65536) (h : nm i = nm j) : i = j := by
  unfold nm at h
  injection h with h1 h
  injection h with h2 _
  have a := congrArg UInt8.toNat h1
  have b := congrArg UInt8.toNat h2
  rw [UInt8.toNat_ofNat', UInt8.toNat_ofNat'] at a b
  omega
def row (n : Nat) : List (List UInt8 × Int) := (List.range n).map fun i => (nm i, (i : Int))
theorem row_length (n : Nat) : (row n).length = n := by simp [row]
theorem row_succ (n : Nat) : row (n + 1) = row n ++ [(nm n, (n : Int))] := by simp [row, List.range_succ]
theorem get_append (l r : List (List UInt8 × Int)) (s : List UInt8) : TabM.get (l ++ r) s = (TabM.get l s).or (TabM.get r s) := by
  unfold TabM.get
  rw [List.find?_append]
  cases l.find? fun a => a.1 == s <;> rfl
theorem get_row : ∀ (n j : Nat), n ≤ 1000 → j < 65536 → TabM.get (row n) (nm j) = if j < n then some (j : Int) else none
  | 0, j, _, _ => rfl
  | n + 1, j, hn, hj => by
    rw [row_succ, get_append, get_row n j (by omega) hj]
    by_cases e : n = j
    · subst e
      rw [if_neg (by omega), if_pos (by omega)]
      simp [TabM.get]
    · have ne : ¬ nm n = nm j := fun h => e (nm_inj (by omega) hj h)
      have h2 : TabM.get [(nm n, (n : Int))] (nm j) = none := by simp [TabM.get, ne]
      rw [h2]
      by_cases c : j < n
      · rw [if_pos c, if_pos (by omega)]; rfl
      · rw [if_neg c, if_neg (by omega)]; rfl
theorem was_row (n j : Nat) (hn : n ≤ 1000) (hj : j < n) : pair (TabM.was (row n) (nm j)) (TabM.is (row n) (nm j)) = .tuple #[.int .i64 (j : Int), .bool true] := by
  unfold TabM.was TabM.is pair
  rw [get_row n j hn (by omega), if_pos hj]; rfl
theorem put_row (i : Nat) (hi : i ≤ 999) : TabM.put ⟨row i, i⟩ (nm i) (i : Int) = ⟨row (i + 1), i + 1⟩ := by
  unfold TabM.put
  rw [get_row i i (by omega) (by omega), if_neg (by omega)]
  dsimp only
  rw [row_succ]
  congr 1
  rw [row_length]
  by_cases h : row i = []
  · rw [if_pos h]
    have := row_length i
    rw [h] at this
    simp at this
    omega
  · rw [if_neg h]; omega
theorem del_row (c g : Nat) (hc : c ≤ 999) : TabM.del ⟨row (c + 1), g⟩ (nm c) = ⟨row c, g⟩ := by
  unfold TabM.del
  dsimp only
  congr 1
  rw [row_succ, List.filter_append]
  have h1 : (row c).filter (fun a => a.1 != nm c) = row c := by
    rw [List.filter_eq_self]
    intro a ha
    obtain ⟨i, hi, rfl⟩ := List.mem_map.1 ha
    have := List.mem_range.1 hi
    have ne : nm i ≠ nm c := fun h => by have := nm_inj (by omega) (by omega) h; omega
    simp [ne]
  rw [h1]
  simp
theorem name_any (i : Nat) (hi : i ≤ 1000) (w : World) :
    Calls Try.prog 22 #[.int .i64 (i : Int)] w fun e w' => e = .returned (.string ⟨(nm i).toArray⟩) ∧ Below w.heap.size w w' := by
  have i0 : (0 : Int) ≤ (i : Int) := by omega
  have i1 : (i : Int) ≤ 1000 := by omega
  have e0 : ((UInt8.ofNat i).toNat : Int) = (i : Int) % 256 := by rw [UInt8.toNat_ofNat']; omega
  have e1 : ((UInt8.ofNat (i / 256)).toNat : Int) = (i : Int) / 256 := by rw [UInt8.toNat_ofNat']; omega
  have e2 : ((UInt8.ofNat (i / 256)).toNat : Int) = (i : Int) / 256 % 256 := by rw [UInt8.toNat_ofNat']; omega
  have cells : ∀ C : Array Value, C = #[Value.int .u8 ((i : Int) % 256), .int .u8 ((i : Int) / 256), .int .u8 120] ∨ C = #[Value.int .u8 ((i : Int) % 256), .int .u8 ((i : Int) / 256 % 256), .int .u8 120] → C = ((nm i).map bv).toArray := fun C h => by
    rcases h with rfl | rfl
    · simp only [nm, List.map_cons, List.map_nil, bv, e0, e1]; rfl
    · simp only [nm, List.map_cons, List.map_nil, bv, e0, e2]; rfl
  have cv : ∀ C : Array Value, (C = #[Value.int .u8 ((i : Int) % 256), .int .u8 ((i : Int) / 256), .int .u8 120] ∨ C = #[Value.int .u8 ((i : Int) % 256), .int .u8 ((i : Int) / 256 % 256), .int .u8 120]) → (convert 39 9 (.slice (some ⟨w.heap.size, 0, none⟩) 3 3)).run Try.prog (w.alloc (.cells C 5)) = .ok (.string ⟨(nm i).toArray⟩) (w.alloc (.cells C 5)) := fun C hC =>
    convert_n 3 3 rfl (Bs.new w C 5 (0, 0) (nm i) (cells C hC))
  have HCV := Lib.hid cv
  clear cells cv e0 e1 e2
  go_enter Try.func22, Try.ntmps22
  go_wp2_with fail
  rw [HCV.out _ (by first | exact .inl rfl | exact .inr rfl)]
  go_wp2_with fail
  go_ret
  exact ⟨rfl, (Below.refl _ w).alloc (Nat.le_refl _) _⟩
end Go.Proofs.Ytedpanfdkdbblaa
