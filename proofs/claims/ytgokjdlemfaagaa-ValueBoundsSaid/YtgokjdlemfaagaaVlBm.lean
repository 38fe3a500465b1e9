/- The values of ValueBounds: a text, a list of empty strings, a list of long ones: sizes, what package value answers of them. -/
import Derived.Test.YtgokjdlemfaagaaVlTold
namespace Go.Proofs.Ytgokjdlemfaagaa
open Go.RowKit
set_option linter.unusedVariables false
/-- A string of m noughts. -/
def zs (m : Nat) : ByteArray := ⟨(List.replicate m (0 : UInt8)).toArray⟩
theorem zs_size (m : Nat) : (zs m).size = m := by show (List.replicate m (0 : UInt8)).toArray.size = m; simp
/-- How long the string of a round is. -/
def bm (k j : Nat) : Nat := if j < 63 then 4096 else 3055 + k
/-- What is left to be filled ahead of a round. -/
def bl (k j : Nat) : Nat := if j ≤ 63 then 262127 + k - 4112 * j else 0
def bg (k j : Nat) : List ByteArray := (List.range j).map fun i => zs (bm k i)
theorem bg_length (k j : Nat) : (bg k j).length = j := by simp [bg]
theorem bg_next (k j : Nat) : bg k (j + 1) = bg k j ++ [zs (bm k j)] := by simp [bg, List.range_succ]
theorem bl_next (k j : Nat) (hj : j < 64) (hk : k ≤ 2) : bl k j = 16 + bm k j + bl k (j + 1) := by
  unfold bl bm
  by_cases h : j < 63
  · rw [if_pos (by omega), if_pos h, if_pos (by omega)]; omega
  · obtain rfl : j = 63 := by omega
    simp; omega
theorem bm_le (k j : Nat) (hk : k ≤ 2) : bm k j ≤ 4096 := by unfold bm; split <;> omega
theorem bl_rest (k j : Nat) (hj : j < 64) : bl k (j + 1) = 0 ∨ 16 ≤ bl k (j + 1) := by
  unfold bl
  by_cases h : j + 1 ≤ 63
  · rw [if_pos h]; omega
  · rw [if_neg h]; exact .inl rfl
theorem bm_min (k j : Nat) (hj : j < 64) (hk : k ≤ 2) : (bm k j = 4096 ∧ 4096 ≤ bm k j + bl k (j + 1)) ∨ (bm k j < 4096 ∧ bl k (j + 1) = 0) := by
  unfold bm bl
  by_cases h : j < 63
  · rw [if_pos h]; exact .inl ⟨rfl, by omega⟩
  · rw [if_neg h, if_neg (by omega)]; exact .inr ⟨by omega, rfl⟩
theorem sum_bg (k : Nat) (hk : k ≤ 2) : ∀ j, j ≤ 64 → Vl.sum (bg k j) + 16 * j + bl k j = 262127 + k
  | 0, _ => by simp [bg, Vl.sum, bl]
  | j + 1, h => by
    have ih := sum_bg k hk j (by omega)
    have n := bl_next k j (by omega) hk
    rw [bg_next, Vl.sum_append]
    simp only [Vl.sum, zs_size]
    omega
def xt (k : Nat) : Vl := vtext (zs (4095 + k))
def xl (k : Nat) : Vl := { kind := 2, text := ⟨#[]⟩, list := List.replicate (999 + k) ⟨#[]⟩, fields := [], scores := [], points := [] }
def xg (k : Nat) : Vl := { kind := 2, text := ⟨#[]⟩, list := bg k 64, fields := [], scores := [], points := [] }
def xe : Vl := { kind := 2, text := ⟨#[]⟩, list := [], fields := [], scores := [], points := [] }
theorem sum_none : ∀ n, Vl.sum (List.replicate n (⟨#[]⟩ : ByteArray)) = 0
  | 0 => rfl
  | n + 1 => by rw [List.replicate_succ]; simp only [Vl.sum, sum_none n]; rfl
theorem size_l (k : Nat) : (xl k).size = 16 + 16 * (999 + k) := by
  have : (xl k).texts = List.replicate (999 + k) ⟨#[]⟩ := rfl
  unfold Vl.size
  rw [this, sum_none]
  simp [Vl.many, Vl.len, xl]
theorem size_g (k : Nat) (hk : k ≤ 2) : (xg k).size = 262143 + k := by
  have h := sum_bg k hk 64 (Nat.le_refl _)
  have e : (xg k).texts = bg k 64 := rfl
  have b : bl k 64 = 0 := rfl
  unfold Vl.size
  rw [e]
  have l : (xg k).len = 64 := bg_length k 64
  have m : (xg k).many = true := rfl
  rw [l, m]
  simp only [if_true]
  omega
theorem short_l (k : Nat) : Vl.short (xl k).texts = true := by
  have : (xl k).texts = List.replicate (999 + k) ⟨#[]⟩ := rfl
  rw [this]
  unfold Vl.short
  rw [List.all_eq_true]
  intro s hs
  rw [List.eq_of_mem_replicate hs]; rfl
theorem short_g (k : Nat) (hk : k ≤ 2) : Vl.short (xg k).texts = true := by
  have : (xg k).texts = bg k 64 := rfl
  rw [this]
  unfold Vl.short bg
  rw [List.all_eq_true]
  intro s hs
  obtain ⟨i, _, rfl⟩ := List.mem_map.1 hs
  rw [zs_size]
  exact decide_eq_true (bm_le k i hk)
theorem may_xl (pt : Nat × Nat → Bool) (k : Nat) (hk : k ≤ 2) : (xl k).may pt = decide (k < 2) := by
  have e : (xl k).may pt = (decide ((xl k).all = (xl k).len) && (((xl k).many && decide (1 ≤ (xl k).len) && decide ((xl k).len ≤ 1000) && (xl k).inOrder pt) || decide ((xl k).kind = 1)) && Vl.short (xl k).texts && decide ((xl k).size ≤ 262144)) := rfl
  have l1 : (xl k).len = 999 + k := by simp [Vl.len, xl]
  have l2 : (xl k).all = 999 + k := by simp [Vl.all, xl]; rfl
  have l3 : (xl k).inOrder pt = true := rfl
  have l4 : (xl k).many = true := rfl
  have l5 : (xl k).kind = 2 := rfl
  rw [e, l1, l2, l3, l4, l5, short_l, size_l, decide_eq_true (show 16 + 16 * (999 + k) ≤ 262144 by omega), decide_eq_true (show 1 ≤ 999 + k by omega)]
  by_cases h : k < 2
  · rw [decide_eq_true h, decide_eq_true (show 999 + k ≤ 1000 by omega)]; simp
  · rw [decide_eq_false h, decide_eq_false (show ¬ 999 + k ≤ 1000 by omega)]; simp
theorem may_xg (pt : Nat × Nat → Bool) (k : Nat) (hk : k ≤ 2) : (xg k).may pt = decide (k < 2) := by
  have e : (xg k).may pt = (decide ((xg k).all = (xg k).len) && (((xg k).many && decide (1 ≤ (xg k).len) && decide ((xg k).len ≤ 1000) && (xg k).inOrder pt) || decide ((xg k).kind = 1)) && Vl.short (xg k).texts && decide ((xg k).size ≤ 262144)) := rfl
  have l1 : (xg k).len = 64 := bg_length k 64
  have l2 : (xg k).all = 64 := by
    show (⟨#[]⟩ : ByteArray).size + (bg k 64).length + 0 + 0 + 0 = 64
    rw [bg_length]; rfl
  have l3 : (xg k).inOrder pt = true := rfl
  have l4 : (xg k).many = true := rfl
  have l5 : (xg k).kind = 2 := rfl
  rw [e, l1, l2, l3, l4, l5, short_g k hk, size_g k hk]
  by_cases h : k < 2
  · rw [decide_eq_true h, decide_eq_true (show 262143 + k ≤ 262144 by omega)]; simp
  · rw [decide_eq_false h, decide_eq_false (show ¬ 262143 + k ≤ 262144 by omega)]; simp
theorem may_xt (pt : Nat × Nat → Bool) (k : Nat) (hk : k ≤ 2) : (xt k).may pt = decide (k < 2) := by
  unfold xt
  rw [may_text, zs_size]
  by_cases h : k < 2
  · rw [decide_eq_true h, decide_eq_true (show 4095 + k ≤ 4096 by omega)]
  · rw [decide_eq_false h, decide_eq_false (show ¬ 4095 + k ≤ 4096 by omega)]
theorem may_xe (pt : Nat × Nat → Bool) : xe.may pt = false := rfl
theorem ok_l (pt : Nat × Nat → Bool) (k : Nat) (hk : k ≤ 2) : VlOk pt (xl k) where
  list := by simp [xl]; omega
  fields := by simp [xl]
  scores := by simp [xl]
  points := by simp [xl]
  text := by simp only [xl]; decide
  size := by rw [size_l]; omega
  names := by simp [xl]
  may := by simp [xl]
theorem ok_g (pt : Nat × Nat → Bool) (k : Nat) (hk : k ≤ 2) : VlOk pt (xg k) where
  list := by simp [xg, bg_length]
  fields := by simp [xg]
  scores := by simp [xg]
  points := by simp [xg]
  text := by simp only [xg]; decide
  size := by rw [size_g k hk]; omega
  names := by simp [xg]
  may := by simp [xg]
theorem ok_e (pt : Nat × Nat → Bool) : VlOk pt xe where
  list := by simp [xe]
  fields := by simp [xe]
  scores := by simp [xe]
  points := by simp [xe]
  text := by simp only [xe]; decide
  size := by decide
  names := by simp [xe]
  may := by simp [xe]
theorem infoT : (Try.prog.info? 9).map (fun i => (i.zero, i.size, i.bytes)) = some (some (.string ⟨#[]⟩), 1, 16) := by kernel_rfl
theorem made_texts (n : Nat) (w : World) (hn : n ≤ 4194304) : (Instr.makeSlice 24 (.int .i64 (n : Int)) (.int .i64 (n : Int))).run Try.prog w = .ok (.slice (some ⟨w.heap.size, 0, none⟩) n n) (w.alloc (.cells (lcells (List.replicate n ⟨#[]⟩)).toArray 9)) := by
  obtain ⟨i, hi, hz, h1, h2⟩ := info_parts infoT
  have h := run_make (P := Try.prog) w 24 9 i _ Try.underlying24 hi hz .i64 .i64 (n : Int) (n : Int) (by omega) (Int.le_refl _) (by rw [h2]; omega) (by omega)
  have e : madeCells (Value.string ⟨#[]⟩).cells (n * i.size) = (lcells (List.replicate n ⟨#[]⟩)).toArray := by
    rw [h1]
    apply Array.ext
    · simp [madeCells, lcells, cells1]
    · intro j h1 h2
      simp [madeCells, lcells, cells1, Value.cells, Nat.mod_one]
  have t : ((n : Int)).toNat = n := by omega
  rw [h, t, e]
theorem zs_conv (W : World) (m : Nat) : (convert 31 9 (.slice (some ⟨W.heap.size, 0, none⟩) m m)).run Try.prog (W.alloc (.cells ((List.replicate m (0 : UInt8)).map bv).toArray 5)) = .ok (.string (zs m)) (W.alloc (.cells ((List.replicate m (0 : UInt8)).map bv).toArray 5)) :=
  convert_n m m (l := List.replicate m (0 : UInt8)) (by simp) (Bs.new W _ _ _ _ rfl)
end Go.Proofs.Ytgokjdlemfaagaa
