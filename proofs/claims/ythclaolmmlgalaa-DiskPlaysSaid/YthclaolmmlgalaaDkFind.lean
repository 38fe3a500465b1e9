/- The contracts of package disk's inner calls that only look: refusal, isName, find; and of remove. -/
import Derived.Test.YthclaolmmlgalaaDkPut
import Derived.Laws.ResultCell
import Derived.Laws.Rows
namespace Go.Proofs.Ythclaolmmlgalaa
open Go.RowKit Go.Maps
set_option linter.unusedVariables false

set_option maxRecDepth 20000 in
set_option maxHeartbeats 2000000 in
theorem remove_some (w : World) (g b : Nat) (D : DataW Value) (r u : Int) (d : Bool) (h : Bare w g (some b) D r u d) (s : ByteArray) (hs : s.size ≤ maxLen) (A' : Option Addr) (n' c' : Nat) (y' : Value)
    (hf : fileAt D s.data.toList = .agg #[.slice A' n' c', y']) (hu : 0 ≤ u ∧ u ≤ 1099511627776) (hl' : n' ≤ 1099511627776) :
    Calls Try.prog 41 #[.pointer (some ⟨g, 0, none⟩), .string s] w fun e w' => e = .returned (.tuple #[]) ∧
      Bare w' g (some b) (D.del (.string s.data.toList)) r (u - (n' : Int)) d ∧ Only (fun k => k = g ∨ k = b) w w' := by
  have HB := Lib.hid h
  have c0 := h.c0
  have c2 := h.c2
  have f2 := h.free 2
  have hg := h.lt
  have hlk : (Instr.lookup 36 (.map (some b)) (.string s) false).run Try.prog w.drew = .ok (.agg #[.slice A' n' c', y']) w.drew := by
    rw [look_file h.drew.map s hs, hf]
  have hfd : ∀ W : World, (Instr.field 57 (.agg #[.slice A' n' c', y']) 0).run Try.prog W = .ok (.slice A' n' c') W := fun W => by kernel_rfl
  have e2 : wrap64 (u - (n' : Int)) = u - (n' : Int) := by unfold wrap64; omega
  clear h
  obtain ⟨w5, hrun, hm5, hg5⟩ := drop_file (HB.out.setUsed (u - (n' : Int))).drew.map s hs 0
  go_enter Try.func41, Try.ntmps41
  go_wp2_with fail
  go_region
  go_wp2_with fail
  go_end0
  exact ⟨rfl, (HB.out.setUsed (u - (n' : Int))).drew.turned hm5 hg5, (((Only.refl (fun k => k = g ∨ k = b) w).setCell (p := ⟨g, 2, none⟩) (.inl (.inl rfl)) _).drew).grown hg5 (.inl (.inr rfl))⟩
theorem refusal_any (w : World) (g : Nat) (mo : Option Nat) (D : DataW Value) (r u : Int) (d : Bool) (h : Bare w g mo D r u d) :
    Calls Try.prog 31 #[.pointer (some ⟨g, 0, none⟩)] w fun e w' => e = .returned (.int .i64 (if d then 23 else 0)) ∧ w = w' := by
  have c3 := h.c3
  clear h
  cases d
  all_goals
    go_enter Try.func31, Try.ntmps31
    go_wp2_with fail
    go_ret
    exact ⟨rfl, rfl⟩
theorem isName_any (w : World) (s : ByteArray) (hs : s.size ≤ maxLen) :
    Calls Try.prog 32 #[.string s] w fun e w' => e = .returned (.bool (DiskM.named s.data.toList)) ∧ w = w' := by
  have e : s.data.toList.length = s.size := by simp
  unfold maxLen at hs
  by_cases h1 : 1 ≤ s.size
  · by_cases h2 : s.size ≤ 64
    · have hr : DiskM.named s.data.toList = true := by unfold DiskM.named; rw [e]; simp [h1, h2]
      rw [hr]
      clear hr e
      go_enter Try.func32, Try.ntmps32
      go_wp2_with fail
      go_ret
      exact ⟨by first | rfl | (congr 3; simp; omega), rfl⟩
    · have hr : DiskM.named s.data.toList = false := by unfold DiskM.named; rw [e]; simp [h1, h2]
      rw [hr]
      clear hr e
      go_enter Try.func32, Try.ntmps32
      go_wp2_with fail
      go_ret
      exact ⟨by first | rfl | (congr 3; simp; omega), rfl⟩
  · have hr : DiskM.named s.data.toList = false := by unfold DiskM.named; rw [e]; simp [h1]
    rw [hr]
    clear hr e
    go_enter Try.func32, Try.ntmps32
    go_wp2_with fail
    go_ret
    exact ⟨by first | rfl | (congr 3; simp; omega), rfl⟩
theorem res_file {fn : Func} {p u : Tmp} (h : fn.results = #[.cell p 57, .tmp u]) (tmps : Array Value) (w : World) (g : Nat) (t : TypeId) (x y : Value) (fr : Nat × Nat)
    (hp : tmps.getD p undef = .pointer (some ⟨g, 0, none⟩)) (hg : w.heap[g]? = some (.cells #[x, y] t fr)) :
    (results fn tmps).run Try.prog w = .ok (.tuple #[.agg #[x, y], tmps.getD u undef]) w := by
  have hl : (loadVar 57 ⟨g, 0, none⟩).run Try.prog w = .ok (.agg #[x, y]) w := run_loadVar_row w g t 57 _ fr _ hg Try.underlying57 rfl (by kernel_rfl)
  rw [results_cell_tmp h, hp]
  simp [asAddr, hl, Result.andThen]
theorem res_file1 {fn : Func} {p : Tmp} (h : fn.results = #[.cell p 57]) (tmps : Array Value) (w : World) (g : Nat) (t : TypeId) (x y : Value) (fr : Nat × Nat)
    (hp : tmps.getD p undef = .pointer (some ⟨g, 0, none⟩)) (hg : w.heap[g]? = some (.cells #[x, y] t fr)) :
    (results fn tmps).run Try.prog w = .ok (.agg #[x, y]) w := results_cell_row h tmps w g t _ fr _ hp hg Try.underlying57 rfl (by kernel_rfl)
set_option maxRecDepth 20000 in
set_option maxHeartbeats 2000000 in
theorem find_down (w : World) (g : Nat) (mo : Option Nat) (D : DataW Value) (r u : Int) (h : Bare w g mo D r u true) (s : ByteArray) :
    Calls Try.prog 34 #[.pointer (some ⟨g, 0, none⟩), .string s] w fun e w' => e = .returned (.tuple #[file0, .int .i64 23]) ∧ Below w.heap.size w w' := by
  have HB := Lib.hid h
  clear h
  go_enter Try.func34, Try.ntmps34
  go_wp2_with fail
  go_at_call 31
  refine (refusal_any _ g mo D r u true (HB.out.alloc _)).mono ?_
  rintro e w1 ⟨rfl, rfl⟩
  go_wp2_with fail
  exact ⟨rfl, _, res_file (p := 4) (u := 5) rfl _ _ w.heap.size _ _ _ _ rfl (heap_alloc_new _ _), rfl, (Below.refl _ w).alloc (Nat.le_refl _) _⟩
set_option maxRecDepth 20000 in
set_option maxHeartbeats 2000000 in
theorem find_no (w : World) (g : Nat) (mo : Option Nat) (D : DataW Value) (r u : Int) (h : Bare w g mo D r u false) (s : ByteArray) (hs : s.size ≤ maxLen) (hn : has D (.string s.data.toList) = false) :
    Calls Try.prog 34 #[.pointer (some ⟨g, 0, none⟩), .string s] w fun e w' => e = .returned (.tuple #[file0, .int .i64 25]) ∧ Below w.heap.size w w' := by
  have HB := Lib.hid h
  have c0 := h.c0
  have hlk : ∀ (C : Array Value) (t : TypeId) (fr : Nat × Nat), (Instr.lookup 36 (.map mo) (.string s) true).run Try.prog (w.alloc (.cells C t fr)) = .ok (.tuple #[.agg #[.slice none 0 0, .int .i64 0], .bool false]) (w.alloc (.cells C t fr)) := fun C t fr => by
    rw [look_ok (h.alloc _).map s hs, hn, fileAt_none hn]
    rfl
  have hg := h.lt
  clear h
  go_enter Try.func34, Try.ntmps34
  go_wp2_with fail
  go_at_call 31
  refine (refusal_any _ g mo D r u false (HB.out.alloc _)).mono ?_
  rintro e w1 ⟨rfl, rfl⟩
  go_wp2_with fail
  exact ⟨rfl, _, res_file (p := 4) (u := 5) rfl _ _ w.heap.size _ _ _ _ rfl ((heap_alloc_old _ _ (by simp)).trans (heap_alloc_new _ _)), rfl, ((Below.refl _ w).alloc (Nat.le_refl _) _).alloc (by simp) _⟩
set_option maxRecDepth 20000 in
set_option maxHeartbeats 2000000 in
theorem find_yes (w : World) (g : Nat) (mo : Option Nat) (D : DataW Value) (r u : Int) (h : Bare w g mo D r u false) (s : ByteArray) (hs : s.size ≤ maxLen) (hn : has D (.string s.data.toList) = true) (A : Option Addr) (n c : Nat) (y : Int)
    (hf : fileAt D s.data.toList = .agg #[.slice A n c, .int .i64 y]) :
    Calls Try.prog 34 #[.pointer (some ⟨g, 0, none⟩), .string s] w fun e w' => e = .returned (.tuple #[.agg #[.slice A n c, .int .i64 y], .int .i64 0]) ∧ Below w.heap.size w w' := by
  have HB := Lib.hid h
  have c0 := h.c0
  have hlk : ∀ (C : Array Value) (t : TypeId) (fr : Nat × Nat), (Instr.lookup 36 (.map mo) (.string s) true).run Try.prog (w.alloc (.cells C t fr)) = .ok (.tuple #[.agg #[.slice A n c, .int .i64 y], .bool true]) (w.alloc (.cells C t fr)) := fun C t fr => by
    rw [look_ok (h.alloc _).map s hs, hn, hf]
  have hg := h.lt
  clear h
  go_enter Try.func34, Try.ntmps34
  go_wp2_with fail
  go_at_call 31
  refine (refusal_any _ g mo D r u false (HB.out.alloc _)).mono ?_
  rintro e w1 ⟨rfl, rfl⟩
  go_wp2_with fail
  exact ⟨rfl, _, res_file (p := 4) (u := 5) rfl _ _ w.heap.size _ _ _ _ rfl ((heap_alloc_old _ _ (by simp)).trans (heap_alloc_new _ _)), rfl, ((Below.refl _ w).alloc (Nat.le_refl _) _).alloc (by simp) _⟩
end Go.Proofs.Ythclaolmmlgalaa
