/- Package skip: the small functions: what tells walk which names come ahead, longer links, heights. -/
import Derived.Test.YtopnbfhkfagemaaDoorSkHeap
import Derived.Test.YtopnbfhkfagemaaDoorSkMap
import Derived.Test.YtopnbfhkfagemaaDoorSkRes
namespace Go.Proofs.YtopnbfhkfagemaaDoor
open Go.RowKit
set_option linter.unusedVariables false
theorem bytesLess_iff : ∀ a b : List UInt8, Op.bytesLess a b = true ↔ a < b
  | [], [] => by simp [Op.bytesLess]
  | [], _ :: _ => by simp [Op.bytesLess]
  | _ :: _, [] => by simp [Op.bytesLess]
  | c :: a, d :: b => by
    rw [Op.bytesLess, List.cons_lt_cons_iff]
    by_cases h : c < d
    · simp [h]
    · by_cases k : c = d
      · subst k
        simp [UInt8.lt_irrefl, bytesLess_iff a b]
      · simp [h, k]
theorem less_is (a b : ByteArray) : Op.bytesLess a.toList b.toList = decide (a.data.toList < b.data.toList) := by
  rw [ByteArray.toList_eq, ByteArray.toList_eq]
  have h1 := bytesLess_iff a.data.toList b.data.toList
  by_cases h : a.data.toList < b.data.toList
  · rw [decide_eq_true h, h1.2 h]
  · rw [decide_eq_false h]
    cases q : Op.bytesLess a.data.toList b.data.toList
    · rfl
    · exact absurd (h1.1 q) h
/-- Does a name come ahead of one? -/
def ahead (a b : SkM.E) : Bool := decide (SkM.lt a b)
theorem front_any (w : World) (b c : Nat) (s t : ByteArray) (v n : Int) (i : Value)
    (h0 : w.cell? ⟨b, 0, none⟩ = some (.string s)) (h1 : w.cell? ⟨b, 1, none⟩ = some (.int .i64 v)) (k0 : w.cell? ⟨c, 0, none⟩ = some (.string t)) (k1 : w.cell? ⟨c, 1, none⟩ = some (.int .i64 n)) :
    Calls Tryd.prog 40 #[.pointer (some ⟨b, 0, none⟩), i, .pointer (some ⟨c, 0, none⟩)] w fun e w' => e = .returned (.bool (ahead (s.data.toList, v) (t.data.toList, n))) ∧ Below w.heap.size w w' := by
  have lss := less_is s t
  by_cases hv : v = n
  · subst hv
    have e : ahead (s.data.toList, v) (t.data.toList, v) = decide (s.data.toList < t.data.toList) := by unfold ahead SkM.lt; simp
    rw [e]
    obtain ⟨d, hd⟩ : ∃ d : Bool, decide (s.data.toList < t.data.toList) = d := ⟨_, rfl⟩
    rw [hd] at lss ⊢
    clear hd e
    go_enter Tryd.func40, Tryd.ntmps40
    go_wp2_with fail
    go_region
    go_wp2_with fail
    go_region
    go_wp2_with fail
    go_ret
    exact ⟨rfl, (Below.refl _ w).drew.drew⟩
  · have e : ahead (s.data.toList, v) (t.data.toList, n) = decide (v < n) := by unfold ahead SkM.lt; simp [hv]
    rw [e]
    clear e lss
    go_enter Tryd.func40, Tryd.ntmps40
    go_wp2_with fail
    go_region
    go_wp2_with fail
    go_region
    go_wp2_with fail
    go_ret
    exact ⟨rfl, (Below.refl _ w).drew.drew⟩
/-- A link as a value, longer by k. -/
def lonV (o : Option Addr) (n k : Int) : Value := match o with | none => .agg #[.pointer none, .int .i64 n] | some p => .agg #[.pointer (some p), .int .i64 (n + k)]
theorem longer_any (w : World) (o : Option Addr) (n k : Int) (h0 : -1000000 ≤ n) (h1 : n ≤ 1000000) (k0 : -1000000 ≤ k) (k1 : k ≤ 1000000) :
    Calls Tryd.prog 37 #[.agg #[.pointer o, .int .i64 n], .int .i64 k] w fun e w' => e = .returned (lonV o n k) ∧ Below w.heap.size w w' := by
  cases o with
  | none =>
    go_enter Tryd.func37, Tryd.ntmps37
    go_wp2_with fail
    try simp only [Exit.inBlock, Exit.then]
    refine bodyPost_ret (res_two (P := Tryd.prog) (fn := Tryd.f37) (p := 4) (ty := 74) rfl _ _ ⟨w.heap.size + 1, 0, none⟩ (.pointer none) (.int .i64 n) _ rfl Tryd.underlying74 rfl (by kernel_rfl) ?_ ?_) rfl ⟨rfl, ?_⟩
    all_goals go_simp
    exact ((Below.refl _ w).alloc (Nat.le_refl _) _).alloc (by simp) _
  | some p =>
    go_enter Tryd.func37, Tryd.ntmps37
    go_wp2_with fail
    try simp only [Exit.inBlock, Exit.then]
    refine bodyPost_ret (res_two (P := Tryd.prog) (fn := Tryd.f37) (p := 4) (ty := 74) rfl _ _ ⟨w.heap.size + 1, 0, none⟩ (.pointer (some p)) (.int .i64 (n + k)) _ rfl Tryd.underlying74 rfl (by kernel_rfl) ?_ ?_) rfl ⟨rfl, ?_⟩
    all_goals go_simp
    exact ((Below.refl _ w).alloc (Nat.le_refl _) _).alloc (by simp) _
theorem find1_any (w : World) (b c : Value) (g : Nat) (i k : Int) (h : w.cell? ⟨g, 0, none⟩ = some (.int .i64 k)) :
    Calls Tryd.prog 41 #[b, .int .i64 i, .pointer (some ⟨g, 0, none⟩)] w fun e w' => e = .returned (.bool (decide (i < k))) ∧ Below w.heap.size w w' := by
  go_enter Tryd.func41, Tryd.ntmps41
  go_wp2_with fail
  go_ret
  exact ⟨rfl, Below.refl _ w⟩
theorem below1_any (w : World) (b g : Nat) (i : Value) (v n : Int) (h1 : w.cell? ⟨b, 1, none⟩ = some (.int .i64 v)) (k : w.cell? ⟨g, 0, none⟩ = some (.int .i64 n)) :
    Calls Tryd.prog 36 #[.pointer (some ⟨b, 0, none⟩), i, .pointer (some ⟨g, 0, none⟩)] w fun e w' => e = .returned (.bool (decide (v < n))) ∧ Below w.heap.size w w' := by
  go_enter Tryd.func36, Tryd.ntmps36
  go_wp2_with fail
  go_region
  go_wp2_with fail
  go_ret
  exact ⟨rfl, (Below.refl _ w).drew⟩
end Go.Proofs.YtopnbfhkfagemaaDoor
