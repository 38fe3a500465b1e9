/- The contract of Disk.put and Disk.remove: what becomes of the struct's cells and of the map. -/
import Derived.Test.YthclaolmmlgalaaDkMap
import Derived.BigRegion
import Derived.BigQuiet
import Derived.Carry
namespace Go.Proofs.Ythclaolmmlgalaa
open Go.RowKit Go.Maps
set_option linter.unusedVariables false

/-- A disk's struct in block g: its four cells, its map. -/
structure Bare (w : World) (g : Nat) (mo : Option Nat) (D : DataW Value) (r u : Int) (d : Bool) : Prop where
  lt : g < w.heap.size
  c0 : w.cell? ⟨g, 0, none⟩ = some (.map mo)
  c1 : w.cell? ⟨g, 1, none⟩ = some (.int .i64 r)
  c2 : w.cell? ⟨g, 2, none⟩ = some (.int .i64 u)
  c3 : w.cell? ⟨g, 3, none⟩ = some (.bool d)
  free : ∀ i, w.frozen? ⟨g, i, none⟩ = false
  map : MapAt w mo D
  ne : mo ≠ some g
theorem Bare.same {w w' : World} {g : Nat} {mo : Option Nat} {D : DataW Value} {r u : Int} {d : Bool} (h : Bare w g mo D r u d) (hs : w.heap.size ≤ w'.heap.size) (k : ∀ b, (b = g ∨ mo = some b) → w'.heap[b]? = w.heap[b]?) : Bare w' g mo D r u d := by
  have e : ∀ i, w'.cell? ⟨g, i, none⟩ = w.cell? ⟨g, i, none⟩ := fun i => by simp [World.cell?, k g (.inl rfl)]
  have f : ∀ i, w'.frozen? ⟨g, i, none⟩ = w.frozen? ⟨g, i, none⟩ := fun i => by simp [World.frozen?, k g (.inl rfl)]
  exact ⟨Nat.lt_of_lt_of_le h.lt hs, (e 0).trans h.c0, (e 1).trans h.c1, (e 2).trans h.c2, (e 3).trans h.c3, fun i => (f i).trans (h.free i), h.map.same fun b hb => k b (.inr hb), h.ne⟩
theorem Bare.below {w w' : World} {g : Nat} {mo : Option Nat} {D : DataW Value} {r u : Int} {d : Bool} (h : Bare w g mo D r u d) (hb : Below w.heap.size w w') : Bare w' g mo D r u d :=
  h.same hb.size fun b hx => hb.block b (by
    rcases hx with rfl | hx
    · exact h.lt
    · have := h.map
      rw [hx] at this
      exact this.lt)
theorem Bare.alloc {w : World} {g : Nat} {mo : Option Nat} {D : DataW Value} {r u : Int} {d : Bool} (h : Bare w g mo D r u d) (o : Obj) : Bare (w.alloc o) g mo D r u d := h.below ((Below.refl _ w).alloc (Nat.le_refl _) o)
theorem Bare.drew {w : World} {g : Nat} {mo : Option Nat} {D : DataW Value} {r u : Int} {d : Bool} (h : Bare w g mo D r u d) : Bare w.drew g mo D r u d := h.same (Nat.le_refl _) fun _ _ => rfl
theorem Bare.setUsed {w : World} {g : Nat} {mo : Option Nat} {D : DataW Value} {r u : Int} {d : Bool} (h : Bare w g mo D r u d) (u' : Int) : Bare (w.setCell ⟨g, 2, none⟩ (.int .i64 u')) g mo D r u' d := by
  have hn := h.ne
  have c0 := h.c0; have c1 := h.c1; have c2 := h.c2; have c3 := h.c3
  refine ⟨by rw [World.size_setCell]; exact h.lt, ?_, ?_, ?_, ?_, fun i => by rw [World.frozen?_setCell]; exact h.free i, h.map.same fun b hb => Below.heap_setCell _ _ _ _ (fun e => hn (by rw [hb, e])), hn⟩
  all_goals go_simp
theorem Bare.turned {w w' : World} {g b : Nat} {D D' : DataW Value} {r u : Int} {d : Bool} (h : Bare w g (some b) D r u d) (hm : MapAt w' (some b) D') (hg : w.grownBy w' (some b)) : Bare w' g (some b) D' r u d := by
  have k : w'.heap[g]? = w.heap[g]? := hg.block g h.lt (fun e => h.ne e.symm)
  have e : ∀ i, w'.cell? ⟨g, i, none⟩ = w.cell? ⟨g, i, none⟩ := fun i => by simp [World.cell?, k]
  have f : ∀ i, w'.frozen? ⟨g, i, none⟩ = w.frozen? ⟨g, i, none⟩ := fun i => by simp [World.frozen?, k]
  exact ⟨Nat.lt_of_lt_of_le h.lt hg.size, (e 0).trans h.c0, (e 1).trans h.c1, (e 2).trans h.c2, (e 3).trans h.c3, fun i => (f i).trans (h.free i), hm, h.ne⟩
theorem Only.grown {F : Nat → Prop} {a w w' : World} {b : Nat} (h : Only F a w) (hg : w.grownBy w' (some b)) (hb : F b ∨ a.heap.size ≤ b) : Only F a w' :=
  ⟨hg.os.trans h.os, hg.tape.trans h.tape, hg.output.trans h.output, Nat.le_trans h.size hg.size, fun k hk hf => by
    rw [hg.block k (Nat.lt_of_lt_of_le hk h.size) (fun e => by injection e with e; subst e; rcases hb with x | x; exact hf x; omega)]
    exact h.block k hk hf⟩
set_option maxRecDepth 20000 in
set_option maxHeartbeats 2000000 in
theorem put_some (w : World) (g b : Nat) (D : DataW Value) (r u : Int) (d : Bool) (h : Bare w g (some b) D r u d) (s : ByteArray) (hs : s.size ≤ maxLen) (hn : size D < maxLen) (A A' : Option Addr) (n c n' c' : Nat) (y : Int) (y' : Value)
    (hf : fileAt D s.data.toList = .agg #[.slice A' n' c', y']) (hu : 0 ≤ u ∧ u ≤ 1099511627776) (hl : n ≤ 1099511627776) (hl' : n' ≤ 1099511627776) :
    Calls Try.prog 33 #[.pointer (some ⟨g, 0, none⟩), .string s, .agg #[.slice A n c, .int .i64 y]] w fun e w' => e = .returned (.tuple #[]) ∧
      Bare w' g (some b) (D.put (.string s.data.toList) (.held (.agg #[.slice A n c, .int .i64 y]))) r (u + ((n : Int) - n')) d ∧ Only (fun k => k = g ∨ k = b) w w' := by
  have HB := Lib.hid h
  have c0 := h.c0
  have c2 := h.c2
  have f2 := h.free 2
  have hg := h.lt
  have hlk : ∀ (C : Array Value) (t : TypeId) (fr : Nat × Nat), (Instr.lookup 36 (.map (some b)) (.string s) false).run Try.prog (w.alloc (.cells C t fr)).drew = .ok (.agg #[.slice A' n' c', y']) (w.alloc (.cells C t fr)).drew := fun C t fr => by
    rw [look_file ((h.alloc _).drew).map s hs, hf]
  have heq : ∀ W : World, (binOp .eql 36 (.map (some b)) (.map none)).run Try.prog W = .ok (.bool false) W := fun W => by kernel_rfl
  have hfd : ∀ W : World, (Instr.field 57 (.agg #[.slice A' n' c', y']) 0).run Try.prog W = .ok (.slice A' n' c') W := fun W => by kernel_rfl
  have e1 : wrap64 ((n : Int) - n') = (n : Int) - n' := by unfold wrap64; omega
  have e2 : wrap64 (u + ((n : Int) - n')) = u + ((n : Int) - n') := by unfold wrap64; omega
  clear h
  go_enter Try.func33, Try.ntmps33
  go_wp2_with fail
  go_region
  obtain ⟨w5, hrun, hm5, hg5⟩ := store_file (((HB.out.setUsed (u + ((n : Int) - n'))).alloc (.cells #[.slice A n c, .int .i64 y] 57)).drew.drew).map s hs hn (.agg #[.slice A n c, .int .i64 y])
  go_wp2_with fail
  go_region
  go_end0
  refine ⟨rfl, ?_, ?_⟩
  · exact ((((HB.out.setUsed (u + ((n : Int) - n'))).alloc (.cells #[.slice A n c, .int .i64 y] 57)).drew.drew).turned hm5 hg5)
  · exact ((((((Only.refl (fun k => k = g ∨ k = b) w).setCell (p := ⟨g, 2, none⟩) (.inl (.inl rfl)) _).alloc _).drew).drew).grown hg5 (.inl (.inr rfl)))
theorem Bare.made {w : World} {g : Nat} {r u : Int} {d : Bool} (h : Bare w g none (.map []) r u d) (C : Array Value) (t : TypeId) (fr : Nat × Nat) :
    Bare (((w.setCell ⟨g, 0, none⟩ (.map (some (w.heap.size + 1)))).alloc (.cells C t fr)).alloc (.map #[] 0)) g (some (w.heap.size + 1)) (.map []) r u d := by
  have c0 := h.c0; have c1 := h.c1; have c2 := h.c2; have c3 := h.c3; have f := h.free; have hg := h.lt
  have hm := map_made ((w.setCell ⟨g, 0, none⟩ (.map (some (w.heap.size + 1)))).alloc (.cells C t fr))
  have e : ((w.setCell ⟨g, 0, none⟩ (.map (some (w.heap.size + 1)))).alloc (.cells C t fr)).heap.size = w.heap.size + 1 := by simp
  rw [e] at hm
  refine ⟨by simp; omega, ?_, ?_, ?_, ?_, fun i => ?_, hm, fun e => by injection e with e; omega⟩
  all_goals go_simp
theorem Bare.made2 {w : World} {g : Nat} {r u : Int} {d : Bool} (h : Bare w g none (.map []) r u d) (u' : Int) (C : Array Value) (t : TypeId) (fr : Nat × Nat) :
    Bare ((((w.setCell ⟨g, 0, none⟩ (.map (some (w.heap.size + 1)))).setCell ⟨g, 2, none⟩ (.int .i64 u')).alloc (.cells C t fr)).alloc (.map #[] 0)) g (some (w.heap.size + 1)) (.map []) r u' d := by
  have c0 := h.c0; have c1 := h.c1; have c2 := h.c2; have c3 := h.c3; have f := h.free; have hg := h.lt
  have hm := map_made (((w.setCell ⟨g, 0, none⟩ (.map (some (w.heap.size + 1)))).setCell ⟨g, 2, none⟩ (.int .i64 u')).alloc (.cells C t fr))
  have e : (((w.setCell ⟨g, 0, none⟩ (.map (some (w.heap.size + 1)))).setCell ⟨g, 2, none⟩ (.int .i64 u')).alloc (.cells C t fr)).heap.size = w.heap.size + 1 := by simp
  rw [e] at hm
  refine ⟨by simp; omega, ?_, ?_, ?_, ?_, fun i => ?_, hm, fun e => by injection e with e; omega⟩
  all_goals go_simp
set_option maxRecDepth 20000 in
set_option maxHeartbeats 2000000 in
theorem put_none (w : World) (g : Nat) (r u : Int) (d : Bool) (h : Bare w g none (.map []) r u d) (s : ByteArray) (hs : s.size ≤ maxLen) (A : Option Addr) (n c : Nat) (y : Int)
    (hu : 0 ≤ u ∧ u ≤ 1099511627776) (hl : n ≤ 1099511627776) :
    Calls Try.prog 33 #[.pointer (some ⟨g, 0, none⟩), .string s, .agg #[.slice A n c, .int .i64 y]] w fun e w' => e = .returned (.tuple #[]) ∧ ∃ b, w.heap.size ≤ b ∧ b < w'.heap.size ∧
      Bare w' g (some b) ((DataW.map []).put (.string s.data.toList) (.held (.agg #[.slice A n c, .int .i64 y]))) r (u + (n : Int)) d ∧ Only (fun k => k = g) w w' := by
  have HB := Lib.hid h
  have c0 := h.c0
  have c2 := h.c2
  have f2 := h.free 2
  have f0 := h.free 0
  have hg := h.lt
  have heq : ∀ W : World, (binOp .eql 36 (.map none) (.map none)).run Try.prog W = .ok (.bool true) W := fun W => by kernel_rfl
  have hfd : ∀ W : World, (Instr.field 57 (.agg #[.slice none 0 0, .int .i64 0]) 0).run Try.prog W = .ok (.slice none 0 0) W := fun W => by kernel_rfl
  have e1 : wrap64 ((n : Int) - 0) = (n : Int) - 0 := by unfold wrap64; omega
  have e2 : wrap64 (u + ((n : Int) - 0)) = u + ((n : Int) - 0) := by unfold wrap64; omega
  have hmk := @run_makeMap Try.prog
  have hlk : (Instr.lookup 36 (.map (some (w.heap.size + 1))) (.string s) false).run Try.prog (((w.setCell ⟨g, 0, none⟩ (.map (some (w.heap.size + 1)))).alloc (.cells #[.slice A n c, .int .i64 y] 57)).alloc (.map #[] 0)).drew =
      .ok (.agg #[.slice none 0 0, .int .i64 0]) (((w.setCell ⟨g, 0, none⟩ (.map (some (w.heap.size + 1)))).alloc (.cells #[.slice A n c, .int .i64 y] 57)).alloc (.map #[] 0)).drew := by
    rw [look_file ((h.made _ _ _).drew).map s hs]
    rfl
  clear h
  go_enter Try.func33, Try.ntmps33
  go_wp2_with fail
  go_region
  obtain ⟨w5, hrun, hm5, hg5⟩ := store_file (((HB.out.made2 (u + (n : Int)) #[.slice A n c, .int .i64 y] 57 (0, 0))).drew.drew).map s hs (by decide) (.agg #[.slice A n c, .int .i64 y])
  go_wp2_with fail
  go_region
  go_end0
  refine ⟨rfl, w.heap.size + 1, Nat.le_succ _, hm5.lt, (((HB.out.made2 (u + (n : Int)) #[.slice A n c, .int .i64 y] 57 (0, 0))).drew.drew).turned hm5 hg5, ?_⟩
  exact (((((((Only.refl (fun k => k = g) w).setCell (p := ⟨g, 0, none⟩) (.inl rfl) _).setCell (p := ⟨g, 2, none⟩) (.inl rfl) _).alloc _).alloc _).drew).drew).grown hg5 (.inr (Nat.le_succ _))
end Go.Proofs.Ythclaolmmlgalaa
