/- Cells of the old memory that may have been turned. -/
import Derived.Test.YtnknekliaejbaaaFrame
namespace Go.Proofs.Ytnknekliaejbaaa
open Go.RowKit
set_option linter.unusedVariables false
/-- Of the old cells only those of D may have been turned. -/
structure Turn (D : Addr → Prop) (w w' : World) : Prop where
  os : w'.os = w.os
  tape : w'.tape = w.tape
  output : w'.output = w.output
  size : w.heap.size ≤ w'.heap.size
  cell : ∀ a : Addr, a.block < w.heap.size → ¬ D a → w'.cell? a = w.cell? a
  frozen : ∀ a : Addr, a.block < w.heap.size → w'.frozen? a = w.frozen? a
  block : ∀ k, k < w.heap.size → (∀ a : Addr, a.block = k → ¬ D a) → w'.heap[k]? = w.heap[k]?
section
variable {D E : Addr → Prop} {w w' w'' : World}
theorem Turn.refl (D : Addr → Prop) (w : World) : Turn D w w := ⟨rfl, rfl, rfl, Nat.le_refl _, fun _ _ _ => rfl, fun _ _ => rfl, fun _ _ _ => rfl⟩
theorem Turn.trans (h : Turn D w w') (k : Turn E w' w'') (s : ∀ a, E a → D a ∨ w.heap.size ≤ a.block) : Turn D w w'' :=
  ⟨k.os.trans h.os, k.tape.trans h.tape, k.output.trans h.output, Nat.le_trans h.size k.size,
   fun a ha hd => by rw [k.cell a (Nat.lt_of_lt_of_le ha h.size) (fun e => by rcases s a e with x | x; exact hd x; omega), h.cell a ha hd],
   fun a ha => by rw [k.frozen a (Nat.lt_of_lt_of_le ha h.size), h.frozen a ha],
   fun n hn hd => by rw [k.block n (Nat.lt_of_lt_of_le hn h.size) (fun a ha e => by rcases s a e with x | x; exact hd a ha x; omega), h.block n hn hd]⟩
theorem Turn.of_below (h : Below w.heap.size w w') : Turn D w w' :=
  ⟨h.os, h.tape, h.output, h.size, fun a ha _ => World.cell?_of_block (h.block _ ha), fun a ha => World.frozen?_of_block (h.block _ ha), fun k hk _ => h.block k hk⟩
theorem Turn.set (w : World) {a : Addr} (h : D a) (v : Value) : Turn D w (w.setCell a v) :=
  ⟨rfl, rfl, rfl, by rw [World.size_setCell]; exact Nat.le_refl _, fun b _ hd => World.cell?_setCell_other _ _ _ _ (fun e => hd (by rw [← e]; exact h)), fun b _ => World.frozen?_setCell _ _ _ _, fun k _ hd => Below.heap_setCell w a v k fun e => hd a e.symm h⟩
theorem Turn.store (h : Turn D w w') {a : Addr} (ha : D a ∨ w.heap.size ≤ a.block) (v : Value) : Turn D w (w'.setCell a v) :=
  h.trans (E := fun b => b = a) (Turn.set (D := fun b => b = a) w' rfl v) fun b e => by subst e; exact ha
theorem Turn.alloc (h : Turn D w w') (o : Obj) : Turn D w (w'.alloc o) := h.trans (E := fun _ => False) (Turn.of_below ((Below.refl _ w').alloc (Nat.le_refl _) o)) fun _ e => e.elim
theorem Turn.wide (h : Turn D w w') (s : ∀ a, D a → E a) : Turn E w w' := ⟨h.os, h.tape, h.output, h.size, fun a ha hd => h.cell a ha fun x => hd (s a x), h.frozen, fun k hk hd => h.block k hk fun a e x => hd a e (s a x)⟩
theorem Turn.only {F : Nat → Prop} (h : Turn D w w') (s : ∀ a, D a → F a.block) : Only F w w' := ⟨h.os, h.tape, h.output, h.size, fun k hk hf => h.block k hk fun a e x => hf (e ▸ s a x)⟩
theorem Turn.below (h : Turn (fun _ => False) w w') : Below w.heap.size w w' := ⟨h.os, h.tape, h.output, h.size, fun k hk => h.block k hk fun _ _ e => e⟩
end
end Go.Proofs.Ytnknekliaejbaaa
