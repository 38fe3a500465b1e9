/- Package cell: tables of string: add. -/
import Derived.Test.YtnknekliaejbaaaCtSB
namespace Go.Proofs.Ytnknekliaejbaaa.CtS
open Go.RowKit Go.Maps
set_option linter.unusedVariables false
abbrev Ks (n : Int) : Obj := .cells #[.int .i64 2, .int .i64 n, .string ⟨#[]⟩] 29
abbrev Ss (n : Int) (v : Value) (l : Option Addr) : Obj := .cells #[.int .i64 2, .int .i64 n, .string ⟨#[]⟩, v, .pointer l, .pointer none] 41
section
variable {w w' : World} {g mb : Nat} {Z : Nat → Prop} {f l : Option Addr} {m : Int → Option Nat} {val : Int → Value} {c bd : Nat}
theorem St.two (h : St w g mb Z f l m val c bd) (n : Int) : St ((w.alloc (Ks n)).alloc (Ss n (val n) l)) g mb (fun b => Z b ∨ b = w.heap.size + 1) f l m val c bd ∧ Slot ((w.alloc (Ks n)).alloc (Ss n (val n) l)) (w.heap.size + 1) n (val n) := by
  have e1 : (w.alloc (Ks n)).heap.size = w.heap.size + 1 := World.size_alloc _ _
  have cc : ∀ i, ((w.alloc (Ks n)).alloc (Ss n (val n) l)).cell? ⟨w.heap.size + 1, i, none⟩ = (#[.int .i64 2, .int .i64 n, .string ⟨#[]⟩, val n, .pointer l, .pointer none] : Array Value)[i]? := fun i => by
    rw [← e1]; exact World.cell?_alloc_new _ _ _ _
  refine ⟨?_, by rw [cc]; rfl, by rw [cc]; rfl, by rw [cc]; rfl, by rw [cc]; rfl⟩
  have := (h.alloc (Ks n)).fresh (x0 := .int .i64 2) (x1 := .int .i64 n) (x2 := .string ⟨#[]⟩) (x3 := val n) (p := l) (q := none) (t := 41) h.pl (.inl rfl)
  rw [e1] at this
  exact this
theorem Slot.other {b : Nat} {n : Int} {v u : Value} {a : Addr} (h : Slot w b n v) (ha : ∀ i, i < 4 → a ≠ ⟨b, i, none⟩) : Slot (w.setCell a u) b n v :=
  ⟨(World.cell?_setCell_other _ _ _ _ (ha 0 (by decide))).trans h.k0, (World.cell?_setCell_other _ _ _ _ (ha 1 (by decide))).trans h.k1, (World.cell?_setCell_other _ _ _ _ (ha 2 (by decide))).trans h.k2, (World.cell?_setCell_other _ _ _ _ (ha 3 (by decide))).trans h.k3⟩
theorem put_in (h : St w g mb Z f l m val c bd) {n : Int} {s : Nat} (hn : In n) (hm : m n = none) (hc : c < maxLen) (hs : Z s) (sl : Slot w s n (val n)) :
    ∃ w5, (Instr.mapUpdate 35 (.map (some mb)) (Kv n) (.pointer (some ⟨s, 0, none⟩))).run Try.prog w = .ok () w5 ∧ St w5 g mb Z f l (upd m n (some s)) val (c + 1) bd ∧ w.grownBy w5 (some mb) := by
  obtain ⟨w5, hr, hm5, hg5⟩ := h.map.store hn hm hc s
  refine ⟨w5, hr, h.turned hm5 hg5 fun k b hk hb => ?_, hg5⟩
  by_cases e : k = n
  · subst e
    rw [upd_same] at hb
    obtain rfl := Option.some.inj hb
    exact ⟨hs, sl⟩
  · rw [upd_other _ _ e] at hb
    exact h.ent k b hk hb
theorem add_first (h : St w g mb Z f none m val c bd) (n : Int) : St ((((w.setCell ⟨g, 1, none⟩ (.pointer (some ⟨w.heap.size + 1, 0, none⟩))).setCell ⟨g, 2, none⟩ (.pointer (some ⟨w.heap.size + 1, 0, none⟩))).alloc (Ks n)).alloc (Ss n (val n) none)) g mb (fun b => Z b ∨ b = w.heap.size + 1) (some ⟨w.heap.size + 1, 0, none⟩) (some ⟨w.heap.size + 1, 0, none⟩) m val c bd ∧
    Slot ((((w.setCell ⟨g, 1, none⟩ (.pointer (some ⟨w.heap.size + 1, 0, none⟩))).setCell ⟨g, 2, none⟩ (.pointer (some ⟨w.heap.size + 1, 0, none⟩))).alloc (Ks n)).alloc (Ss n (val n) none)) (w.heap.size + 1) n (val n) := by
  obtain ⟨a, b⟩ := h.two n
  have gl := h.gl
  have pz : PZ (fun b => Z b ∨ b = w.heap.size + 1) (some ⟨w.heap.size + 1, 0, none⟩) := .inr ⟨_, .inr rfl, rfl⟩
  have a2 := (a.first pz).last pz
  have b2 := (b.other (a := ⟨g, 1, none⟩) (u := .pointer (some ⟨w.heap.size + 1, 0, none⟩)) (fun i _ e => by injection e with e; omega)).other (a := ⟨g, 2, none⟩) (u := .pointer (some ⟨w.heap.size + 1, 0, none⟩)) (fun i _ e => by injection e with e; omega)
  rw [World.setCell_alloc_past _ _ _ _ (by rw [World.size_alloc]; omega), World.setCell_alloc_past _ _ _ _ gl, World.setCell_alloc_past _ _ _ _ (by rw [World.size_alloc, World.size_setCell]; omega), World.setCell_alloc_past _ _ _ _ (by rw [World.size_setCell]; exact gl)] at a2 b2
  exact ⟨a2, b2⟩
theorem add_next {lb : Nat} (h : St w g mb Z f (some ⟨lb, 0, none⟩) m val c bd) (hz : Z lb) (n : Int) : St ((((w.setCell ⟨lb, 5, none⟩ (.pointer (some ⟨w.heap.size + 1, 0, none⟩))).setCell ⟨g, 2, none⟩ (.pointer (some ⟨w.heap.size + 1, 0, none⟩))).alloc (Ks n)).alloc (Ss n (val n) (some ⟨lb, 0, none⟩))) g mb (fun b => Z b ∨ b = w.heap.size + 1) f (some ⟨w.heap.size + 1, 0, none⟩) m val c bd ∧
    Slot ((((w.setCell ⟨lb, 5, none⟩ (.pointer (some ⟨w.heap.size + 1, 0, none⟩))).setCell ⟨g, 2, none⟩ (.pointer (some ⟨w.heap.size + 1, 0, none⟩))).alloc (Ks n)).alloc (Ss n (val n) (some ⟨lb, 0, none⟩))) (w.heap.size + 1) n (val n) := by
  obtain ⟨a, b⟩ := h.two n
  have gl := h.gl
  have ll := h.lt lb hz
  have pz : PZ (fun b => Z b ∨ b = w.heap.size + 1) (some ⟨w.heap.size + 1, 0, none⟩) := .inr ⟨_, .inr rfl, rfl⟩
  have a2 := (a.aft (b := lb) (.inl hz) pz).last pz
  have b2 := (b.other (a := ⟨lb, 5, none⟩) (u := .pointer (some ⟨w.heap.size + 1, 0, none⟩)) (fun i _ e => by injection e with e; omega)).other (a := ⟨g, 2, none⟩) (u := .pointer (some ⟨w.heap.size + 1, 0, none⟩)) (fun i _ e => by injection e with e; omega)
  rw [World.setCell_alloc_past _ _ _ _ (by rw [World.size_alloc]; omega), World.setCell_alloc_past _ _ _ _ ll, World.setCell_alloc_past _ _ _ _ (by rw [World.size_alloc, World.size_setCell]; omega), World.setCell_alloc_past _ _ _ _ (by rw [World.size_setCell]; exact gl)] at a2 b2
  exact ⟨a2, b2⟩
/-- What add leaves. -/
def Added (w : World) (g mb : Nat) (Z : Nat → Prop) (m : Int → Option Nat) (val : Int → Value) (c bd : Nat) (n : Int) (w' : World) : Prop :=
  ∃ s f l, w.heap.size ≤ s ∧ St w' g mb (fun b => Z b ∨ b = s) f l (upd m n (some s)) val (c + 1) bd ∧ Only (fun b => b = g ∨ b = mb ∨ Z b) w w'
theorem only_grown {F : Nat → Prop} {a w w' : World} {b : Nat} (h : Only F a w) (hg : w.grownBy w' (some b)) (hb : F b ∨ a.heap.size ≤ b) : Only F a w' :=
  ⟨hg.os.trans h.os, hg.tape.trans h.tape, hg.output.trans h.output, Nat.le_trans h.size hg.size, fun k hk hf => by
    rw [hg.block k (Nat.lt_of_lt_of_le hk h.size) (fun e => by injection e with e; subst e; rcases hb with x | x; exact hf x; omega)]
    exact h.block k hk hf⟩
set_option maxRecDepth 20000 in
set_option maxHeartbeats 1000000 in
theorem add_none (h : St w g mb Z f none m val c bd) {n : Int} {v : ByteArray} (hn : In n) (hm : m n = none) (hc : c < maxLen) (hv : val n = .string v) : Calls Try.prog 12 #[.pointer (some ⟨g, 0, none⟩), Kv n, .string v] w fun e w' => e = .returned (.tuple #[]) ∧ Added w g mb Z m val c bd n w' := by
  have hl : g < w.heap.size := h.gl
  have c0 := h.c0
  have c1 := h.c1
  have c2 := h.c2
  have f1 := h.free 1
  have f2 := h.free 2
  have heq : ∀ W : World, (binOp .eql 35 (.map (some mb)) (.map none)).run Try.prog W = .ok (.bool false) W := fun W => by kernel_rfl
  obtain ⟨s1, s2⟩ := add_first h n
  obtain ⟨w5, hrun, s5, g5⟩ := put_in (s1.drew.drew) hn hm hc (.inr rfl) ⟨s2.k0, s2.k1, s2.k2, s2.k3⟩
  rw [hv] at hrun
  have O : Hid (Only (fun b => b = g ∨ b = mb ∨ Z b) w w5) := only_grown (((((Only.refl _ w).setCell (p := ⟨g, 1, none⟩) (.inl (.inl rfl)) _).setCell (p := ⟨g, 2, none⟩) (.inl (.inl rfl)) _).alloc _).alloc _).drew.drew g5 (.inl (.inr (.inl rfl)))
  have S5 := Lib.hid s5
  clear h hn hm hc hv s1 s2 s5 g5
  go_enter Try.func12, Try.ntmps12
  go_wp2_with (go_at_call 22; refine (clone_none _).mono ?_; rintro e w1 ⟨rfl, rfl⟩)
  go_region
  go_wp2_with fail
  go_region
  go_wp2_with fail
  go_end0
  exact ⟨rfl, _, _, _, by omega, S5.out, O.out⟩
set_option maxRecDepth 20000 in
set_option maxHeartbeats 1000000 in
theorem add_some {lb : Nat} (h : St w g mb Z f (some ⟨lb, 0, none⟩) m val c bd) (hz : Z lb) {n : Int} {v : ByteArray} (hn : In n) (hm : m n = none) (hc : c < maxLen) (hv : val n = .string v) : Calls Try.prog 12 #[.pointer (some ⟨g, 0, none⟩), Kv n, .string v] w fun e w' => e = .returned (.tuple #[]) ∧ Added w g mb Z m val c bd n w' := by
  have hl : g < w.heap.size := h.gl
  have ll : lb < w.heap.size := h.lt lb hz
  have lg : lb ≠ g := (h.zg lb hz).1
  have gn : g ≠ lb := lg.symm
  have c0 := h.c0
  have c2 := h.c2
  have f2 := h.free 2
  obtain ⟨q5, c5, -⟩ := h.z5 lb hz
  have f5 := h.zfree lb 5 hz
  have heq : ∀ W : World, (binOp .eql 35 (.map (some mb)) (.map none)).run Try.prog W = .ok (.bool false) W := fun W => by kernel_rfl
  obtain ⟨s1, s2⟩ := add_next h hz n
  obtain ⟨w5, hrun, s5, g5⟩ := put_in (s1.drew.drew) hn hm hc (.inr rfl) ⟨s2.k0, s2.k1, s2.k2, s2.k3⟩
  rw [hv] at hrun
  have O : Hid (Only (fun b => b = g ∨ b = mb ∨ Z b) w w5) := only_grown (((((Only.refl _ w).setCell (p := ⟨lb, 5, none⟩) (.inl (.inr (.inr hz))) _).setCell (p := ⟨g, 2, none⟩) (.inl (.inl rfl)) _).alloc _).alloc _).drew.drew g5 (.inl (.inr (.inl rfl)))
  have S5 := Lib.hid s5
  clear h hn hm hc hv s1 s2 s5 g5 hz
  go_enter Try.func12, Try.ntmps12
  go_wp2_with (go_at_call 22; refine (clone_none _).mono ?_; rintro e w1 ⟨rfl, rfl⟩)
  go_region
  go_wp2_with fail
  go_region
  go_wp2_with fail
  go_end0
  exact ⟨rfl, _, _, _, by omega, S5.out, O.out⟩
theorem add_any (h : St w g mb Z f l m val c bd) {n : Int} {v : ByteArray} (hn : In n) (hm : m n = none) (hc : c < maxLen) (hv : val n = .string v) : Calls Try.prog 12 #[.pointer (some ⟨g, 0, none⟩), Kv n, .string v] w fun e w' => e = .returned (.tuple #[]) ∧ Added w g mb Z m val c bd n w' := by
  rcases h.pl with rfl | ⟨lb, hz, rfl⟩
  · exact add_none h hn hm hc hv
  · exact add_some h hz hn hm hc hv
end
end Go.Proofs.Ytnknekliaejbaaa.CtS
