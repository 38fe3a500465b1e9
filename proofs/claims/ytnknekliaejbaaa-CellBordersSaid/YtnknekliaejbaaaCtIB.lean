/- Package cell: tables of int: New, find, Border, Len. -/
import Derived.Test.YtnknekliaejbaaaClF
import Derived.Test.YtnknekliaejbaaaCtIA
namespace Go.Proofs.Ytnknekliaejbaaa.CtI
open Go.RowKit Go.Maps
set_option linter.unusedVariables false
section
variable {w w' : World} {g mb : Nat} {Z : Nat → Prop} {f l : Option Addr} {m : Int → Option Nat} {val : Int → Value} {c bd : Nat}
theorem find_any (h : St w g mb Z f l m val c bd) {n : Int} (hn : In n) : Calls Try.prog 24 #[.pointer (some ⟨g, 0, none⟩), Kv n] w fun e w' => e = .returned (.pointer (ptr (m n))) ∧ Below w.heap.size w w' := by
  have hl : g < w.heap.size := h.gl
  have c0 := h.c0
  have LK : ∀ W : World, W.heap[mb]? = w.heap[mb]? → (Instr.lookup 53 (.map (some mb)) (.agg #[.int .i64 2, .int .i64 n, .string ⟨#[]⟩]) false).run Try.prog W = .ok (.pointer (ptr (m n))) W := fun W hW => (h.map.same hW).look hn
  have L1 := LK ((w.alloc (.cells #[.int .i64 2, .int .i64 n, .string ⟨#[]⟩] 29)).drew) (((Below.refl _ w).alloc (Nat.le_refl _) _).block mb h.map.lt)
  clear h LK hn
  go_enter Try.func24, Try.ntmps24
  go_wp2_with fail
  go_region
  go_wp2_with fail
  go_ret
  exact ⟨rfl, ((Below.refl _ w).alloc (Nat.le_refl _) _).drew⟩
theorem border_any (h : St w g mb Z f l m val c bd) : Calls Try.prog 18 #[.pointer (some ⟨g, 0, none⟩)] w fun e w' => e = .returned (.int .i64 (bd : Int)) ∧ w' = w := by
  have c3 := h.c3
  clear h
  go_enter Try.func18, Try.ntmps18
  go_wp2_with fail
  go_ret
  exact ⟨rfl, rfl⟩
theorem len_any (h : St w g mb Z f l m val c bd) : Calls Try.prog 20 #[.pointer (some ⟨g, 0, none⟩)] w fun e w' => e = .returned (.int .i64 (c : Int)) ∧ w' = w := by
  have c0 := h.c0
  have LN := fun ty => h.map.len ty
  clear h
  go_enter Try.func20, Try.ntmps20
  go_wp2_with fail
  go_ret
  exact ⟨rfl, rfl⟩
theorem new_any (w : World) (val : Int → Value) : Calls Try.prog 16 #[] w fun e w' => e = .returned (.pointer (some ⟨w.heap.size + 1, 0, none⟩)) ∧ Below w.heap.size w w' ∧ w'.heap.size = w.heap.size + 2 ∧ St w' (w.heap.size + 1) w.heap.size (fun _ => False) none none (fun _ => none) val 0 0 := by
  have hmm := @run_makeMap Try.prog
  go_enter Try.func16, Try.ntmps16
  go_wp2_with fail
  go_ret
  have e1 : (w.alloc (.map #[] 0)).heap.size = w.heap.size + 1 := World.size_alloc _ _
  refine ⟨rfl, ((Below.refl _ w).alloc (Nat.le_refl _) _).alloc (by rw [e1]; omega) _, by rw [World.size_alloc, e1], ?_⟩
  have cc : ∀ i, ((w.alloc (.map #[] 0)).alloc (.cells #[.map (some w.heap.size), .pointer none, .pointer none, .int .i64 0] 56)).cell? ⟨w.heap.size + 1, i, none⟩ = (#[.map (some w.heap.size), .pointer none, .pointer none, .int .i64 0] : Array Value)[i]? := fun i => by
    rw [← e1]; exact World.cell?_alloc_new _ _ _ _
  refine ⟨by rw [World.size_alloc, e1]; omega, by rw [cc]; rfl, by rw [cc]; rfl, by rw [cc]; rfl, by rw [cc]; rfl, fun i => by rw [← e1]; exact World.frozen?_alloc_new _ _ _ _, .inl rfl, .inl rfl, (map_made w).same (((Below.refl _ (w.alloc (.map #[] 0))).alloc (Nat.le_refl _) _).block _ (by rw [e1]; omega)), by omega, fun b h => h.elim, fun b i h => h.elim, fun b h => h.elim, fun b h => h.elim, fun b h => h.elim, fun n b _ h => by cases h⟩
end
end Go.Proofs.Ytnknekliaejbaaa.CtI
