/- Package cell: Get of a table of whole numbers; the law's own told. -/
import Derived.Test.YtnknekliaejbaaaCtID
namespace Go.Proofs.Ytnknekliaejbaaa
open Go.RowKit Go.Maps
set_option linter.unusedVariables false
namespace CtI
variable {w w' : World} {g mb : Nat} {Z : Nat → Prop} {f l : Option Addr} {m : Int → Option Nat} {val : Int → Value} {c bd : Nat}
theorem Rel.below {G : Nat → Prop} (h : Rel w G g m val c bd) (hb : Below w.heap.size w w') : Rel w' G g m val c bd := by
  obtain ⟨mb, Z, f, l, st, r⟩ := h
  exact ⟨mb, Z, f, l, st.below hb, r⟩
theorem get_any {G : Nat → Prop} (h : Rel w G g m val c bd) {n : Int} {s : Nat} {v : Int} (hn : In n) (hm : m n = some s) (hv : val n = .int .i64 v) :
    Calls Try.prog 19 #[.pointer (some ⟨g, 0, none⟩), Kv n] w fun e w' => e = .returned (.tuple #[.int .i64 v, .bool true]) ∧ Below w.heap.size w w' := by
  obtain ⟨mb, Z, f, l, st, bo, le, top, hG⟩ := h
  have S := Lib.hid st
  have HN := Lib.hid hn
  have HM := Lib.hid hm
  have HV := Lib.hid hv
  have S1 : Hid (St (w.alloc (Ks n)) g mb Z f l m val c bd) := st.alloc _
  have K1 : Hid (Below w.heap.size w (w.alloc (Ks n))) := (Below.refl _ w).alloc (Nat.le_refl _) _
  clear st bo top hG hm hv hn
  go_enter Try.func19, Try.ntmps19
  go_wp2_with (go_at_call 24; refine (find_any S1.out HN.out).mono ?_; rintro e w2 ⟨rfl, k2⟩; rw [HM.out, show ptr (some s) = some ⟨s, 0, none⟩ from rfl]; have K2 := Lib.hid (K1.out.trans (k2.mono K1.out.size)); have k3 : w2.cell? ⟨s, 3, none⟩ = some (.int .i64 v) := by { have := ((S.out.below K2.out).ent n s HN.out HM.out).2.k3; rw [HV.out] at this; exact this }; clear k2)
  go_ret2
  exact ⟨rfl, K2.out⟩
theorem border_rel {G : Nat → Prop} (h : Rel w G g m val c bd) : Calls Try.prog 18 #[.pointer (some ⟨g, 0, none⟩)] w fun e w' => e = .returned (.int .i64 (bd : Int)) ∧ w' = w := by
  obtain ⟨mb, Z, f, l, st, -⟩ := h
  exact border_any st
theorem len_rel {G : Nat → Prop} (h : Rel w G g m val c bd) : Calls Try.prog 20 #[.pointer (some ⟨g, 0, none⟩)] w fun e w' => e = .returned (.int .i64 (c : Int)) ∧ w' = w := by
  obtain ⟨mb, Z, f, l, st, -⟩ := h
  exact len_any st
/-- What told's table holds. -/
def tv (n : Int) : Value := .int .i64 (if n = 1 then 5 else if n = 3 then 6 else 7)
theorem up_val (m : Int → Option Nat) (a b : Int) (o : Option Nat) (h : a ≠ b) : upd m a o b = m b := if_neg (fun e => h e.symm)
theorem border_one (s t b : Nat) (h : Border (upd (upd (fun _ => none) 1 (some s)) 3 (some t)) b) : b = 1 :=
  h.one ⟨fun j h1 h2 => by obtain rfl : j = 1 := by omega
                           rfl, rfl⟩
theorem border_three (s t u b : Nat) (h : Border (upd (upd (upd (fun _ => none) 1 (some s)) 3 (some t)) 2 (some u)) b) : b = 3 :=
  h.one ⟨fun j h1 h2 => by rcases (by omega : j = 1 ∨ j = 2 ∨ j = 3) with rfl | rfl | rfl <;> rfl, rfl⟩
theorem Rel.border {G : Nat → Prop} (h : Rel w G g m val c bd) : Border m bd := by
  obtain ⟨mb, Z, f, l, st, bo, -⟩ := h
  exact bo
set_option maxRecDepth 20000 in
set_option maxHeartbeats 2000000 in
theorem told_any (w : World) : Calls Try.prog 10 #[] w fun e w' => e = .returned (.bool true) ∧ Below w.heap.size w w' := by
  go_enter Try.func10, Try.ntmps10
  go_wp2_with fail
  go_at_call 16
  refine (new_any w tv).mono ?_
  rintro e w1 ⟨rfl, b1, z1, st1⟩
  have R1 : Rel w1 (fun k => k = w.heap.size ∨ k = w.heap.size + 1) (w.heap.size + 1) (fun _ => none) tv 0 0 := ⟨_, _, _, _, st1, ⟨fun j h1 h2 => by omega, rfl⟩, by omega, fun _ _ _ => rfl, fun k hk => by rcases hk with h | h | h; exact .inr h; exact .inl h; exact h.elim⟩
  have A2 : Below w1.heap.size w1 (w1.alloc (Ks 1)) := (Below.refl _ w1).alloc (Nat.le_refl _) _
  have R2 := Lib.hid (R1.below A2)
  have B2 := Lib.hid (b1.trans (A2.mono b1.size))
  have CK : Hid (∀ i, (w1.alloc (Ks 1)).cell? ⟨w1.heap.size, i, none⟩ = (#[.int .i64 2, .int .i64 1, .string ⟨#[]⟩] : Array Value)[i]?) := fun i => World.cell?_alloc_new _ _ _ _
  go_wp2_with fail
  have z2 : (w1.alloc (Ks 1)).heap.size = w.heap.size + 3 := by rw [World.size_alloc, z1]
  obtain ⟨w2, e2⟩ : ∃ w2, w1.alloc (Ks 1) = w2 := ⟨_, rfl⟩
  rw [e2] at R2 B2 CK z2
  rw [z1] at CK
  rw [show w1.alloc (.cells #[.int .i64 2, .int .i64 1, .string ⟨#[]⟩] 29) = w2 from e2]
  clear e2 z1
  have Z2 := Lib.hid z2
  have O0 := Lib.hid (Only.refl (fun _ => False) w2)
  go_at_call 17
  have P1 := put_new (n := 1) (v := 5) R2.out (by decide) rfl (by decide) rfl
  rw [show ((1 : Nat) : Int) = 1 from rfl] at P1
  refine P1.mono ?_
  rintro e w3 ⟨rfl, s1, c1, r3, o3⟩
  have hsz3 : w.heap.size + 3 ≤ w3.heap.size := by have := o3.size; omega
  have S3 := Lib.hid hsz3
  have q3 : w3.heap[w.heap.size + 2]? = w2.heap[w.heap.size + 2]? := o3.block _ (by omega) (by omega)
  have R3 := Lib.hid r3
  have O3 := Lib.hid (o3.below (B := w.heap.size) (fun k hk => by omega) (by omega))
  clear P1 r3 o3 z2
  go_wp2_with fail
  go_at_call 17
  have P2 := put_new (n := 3) (v := 6) R3.out (by decide) rfl (by decide) rfl
  rw [show ((3 : Nat) : Int) = 3 from rfl] at P2
  refine P2.mono ?_
  rintro e w4 ⟨rfl, s2, c2, r4, o4⟩
  have hsz4 : w.heap.size + 3 ≤ w4.heap.size := by have := o4.size; omega
  have q4 : w4.heap[w.heap.size + 2]? = w3.heap[w.heap.size + 2]? := o4.block _ (by omega) (by have := Z2.out; rintro (h | h) <;> omega)
  have R4 := Lib.hid r4
  have S4 := Lib.hid hsz4
  have O4 := Lib.hid (o4.below (B := w.heap.size) (fun k hk => by have := Z2.out; rcases hk with h | h <;> omega) (by omega))
  obtain rfl := border_one _ _ _ r4.border
  clear P2 r4 o4 hsz3
  go_wp2_with fail
  go_at_call 18
  refine (border_rel R4.out).mono ?_
  rintro e w5 ⟨rfl, rfl⟩
  go_wp2_with fail
  go_at_call 17
  have P3 := put_new (n := 2) (v := 7) R4.out (by decide) rfl (by decide) rfl
  rw [show ((2 : Nat) : Int) = 2 from rfl] at P3
  refine P3.mono ?_
  rintro e w6 ⟨rfl, s3, c3, r6, o6⟩
  have q6 : w6.heap[w.heap.size + 2]? = w5.heap[w.heap.size + 2]? := o6.block _ (by omega) (by have := Z2.out; have := S3.out; rintro (h | h) <;> omega)
  have R6 := Lib.hid r6
  have O6 := Lib.hid (o6.below (B := w.heap.size) (fun k hk => by have := Z2.out; have := S3.out; rcases hk with h | h <;> omega) (by omega))
  obtain rfl := border_three _ _ _ _ r6.border
  have qq : w6.heap[w.heap.size + 2]? = w2.heap[w.heap.size + 2]? := q6.trans (q4.trans q3)
  have d0 : w6.cell? ⟨w.heap.size + 2, 0, none⟩ = some (.int .i64 2) := (World.cell?_of_block qq).trans (CK.out 0)
  have d1 : w6.cell? ⟨w.heap.size + 2, 1, none⟩ = some (.int .i64 1) := (World.cell?_of_block qq).trans (CK.out 1)
  have d2 : w6.cell? ⟨w.heap.size + 2, 2, none⟩ = some (.string ⟨#[]⟩) := (World.cell?_of_block qq).trans (CK.out 2)
  clear P3 r6 o6 q3 q4 q6 qq hsz4
  go_wp2_with (first
    | (go_at_call 19; refine (get_any (n := 1) (v := 5) R6.out (by unfold In; omega) rfl rfl).mono ?_; rintro e w7 ⟨rfl, k7⟩; have R7 := Lib.hid (R6.out.below k7); have O7 := Lib.hid (O6.out.trans (k7.mono (by have := O6.out.size; have := O4.out.size; have := O3.out.size; have := B2.out.size; omega))); clear k7)
    | (go_at_call 18; refine (border_rel R7.out).mono ?_; rintro e w8 ⟨rfl, rfl⟩)
    | (go_at_call 20; refine (len_rel R7.out).mono ?_; rintro e w8 ⟨rfl, rfl⟩)
    | (go_at_call 21; refine (text32 _).mono ?_; rintro e w8 ⟨rfl, rfl⟩)
    | (go_at_call 21; refine (text_m1 _).mono ?_; rintro e w8 ⟨rfl, rfl⟩))
  go_ret
  exact ⟨rfl, B2.out.trans (O3.out.trans (O4.out.trans O7.out))⟩
end CtI
end Go.Proofs.Ytnknekliaejbaaa
