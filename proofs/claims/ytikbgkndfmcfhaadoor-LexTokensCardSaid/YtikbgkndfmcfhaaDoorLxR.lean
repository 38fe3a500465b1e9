/- Package lex: the reader in memory: peek, take, taken. -/
import Derived.Test.YtikbgkndfmcfhaaDoorLxB
import Derived.Test.YtikbgkndfmcfhaaDoorAddr
import Derived.BigQuiet
import Derived.Laws.AppendOwn
import Derived.OwnWalk
namespace Go.Proofs.YtikbgkndfmcfhaaDoor
open Go.RowKit
set_option linter.unusedVariables false
/-- A block with these cells. -/
def Blk (W : World) (b : Nat) (cells : Array Value) (t : TypeId) : Prop := W.heap[b]? = some (.cells cells t (0, 0))
theorem Blk.lt {W : World} {b : Nat} {c : Array Value} {t : TypeId} (h : Blk W b c t) : b < W.heap.size := (Array.getElem?_eq_some_iff.1 (show W.heap[b]? = _ from h)).1
/-- A reader at block g: source, where the token begins, the next byte, the tokens. -/
def Rb (W : World) (g : Nat) (s : ByteArray) (from_ at_ : Nat) (tv : Value) : Prop := Blk W g #[.string s, .int .i64 (from_ : Int), .int .i64 (at_ : Int), tv] 36
theorem Rb.four {W : World} {g : Nat} {s : ByteArray} {f k : Nat} {tv : Value} (h : Rb W g s f k tv) :
    W.cell? ⟨g, 0, none⟩ = some (.string s) ∧ W.cell? ⟨g, 1, none⟩ = some (.int .i64 (f : Int)) ∧ W.cell? ⟨g, 2, none⟩ = some (.int .i64 (k : Int)) ∧ W.cell? ⟨g, 3, none⟩ = some tv ∧
    W.frozen? ⟨g, 1, none⟩ = false ∧ W.frozen? ⟨g, 2, none⟩ = false ∧ W.frozen? ⟨g, 3, none⟩ = false := by
  have h : W.heap[g]? = _ := h
  simp [World.cell?, World.frozen?, h]
theorem Rb.put2 {W : World} {g : Nat} {s : ByteArray} {f k : Nat} {tv : Value} (h : Rb W g s f k tv) (j : Nat) : Rb (W.setCell ⟨g, 2, none⟩ (.int .i64 (j : Int))) g s f j tv := by
  have h : W.heap[g]? = _ := h
  show (W.setCell ⟨g, 2, none⟩ _).heap[g]? = _
  simp [World.setCell, Array.getElem?_modify, h]
theorem Rb.put1 {W : World} {g : Nat} {s : ByteArray} {f k : Nat} {tv : Value} (h : Rb W g s f k tv) (j : Nat) : Rb (W.setCell ⟨g, 1, none⟩ (.int .i64 (j : Int))) g s j k tv := by
  have h : W.heap[g]? = _ := h
  show (W.setCell ⟨g, 1, none⟩ _).heap[g]? = _
  simp [World.setCell, Array.getElem?_modify, h]
theorem Rb.put3 {W : World} {g : Nat} {s : ByteArray} {f k : Nat} {tv : Value} (h : Rb W g s f k tv) (u : Value) : Rb (W.setCell ⟨g, 3, none⟩ u) g s f k u := by
  have h : W.heap[g]? = _ := h
  show (W.setCell ⟨g, 3, none⟩ _).heap[g]? = _
  simp [World.setCell, Array.getElem?_modify, h]
theorem grown_set (W : World) (b o : Nat) (v : Value) : W.grownBy (W.setCell ⟨b, o, none⟩ v) (some b) :=
  ⟨rfl, rfl, rfl, by rw [World.size_setCell]; exact Nat.le_refl _, fun k _ hk => Below.heap_setCell _ _ _ k (fun e => hk (by rw [e]))⟩
/-- The same memory. -/
structure Sm (w w' : World) : Prop where
  os : w'.os = w.os
  tape : w'.tape = w.tape
  output : w'.output = w.output
  heap : w'.heap = w.heap
theorem Sm.refl (w : World) : Sm w w := ⟨rfl, rfl, rfl, rfl⟩
theorem Sm.trans {a b c : World} (h : Sm a b) (k : Sm b c) : Sm a c := ⟨k.os.trans h.os, k.tape.trans h.tape, k.output.trans h.output, k.heap.trans h.heap⟩
theorem Sm.cell {w w' : World} (h : Sm w w') (p : Addr) : w'.cell? p = w.cell? p := by unfold World.cell?; rw [h.heap]
theorem Sm.frozen {w w' : World} (h : Sm w w') (p : Addr) : w'.frozen? p = w.frozen? p := by unfold World.frozen?; rw [h.heap]
theorem Sm.rb {w w' : World} (h : Sm w w') {g : Nat} {s : ByteArray} {f k : Nat} {tv : Value} (r : Rb w g s f k tv) : Rb w' g s f k tv := by
  show w'.heap[g]? = _
  rw [h.heap]; exact r
theorem Sm.grown {w w' : World} (h : Sm w w') (r : Option Nat) : w.grownBy w' r := ⟨h.os, h.tape, h.output, by rw [h.heap]; exact Nat.le_refl _, fun k _ _ => by rw [h.heap]⟩
theorem Sm.below {w w' : World} (h : Sm w w') (B : Nat) : Below B w w' := ⟨h.os, h.tape, h.output, by rw [h.heap]; exact Nat.le_refl _, fun k _ => by rw [h.heap]⟩
/-- The byte at a place, or none. -/
def pk (s : ByteArray) (k : Nat) : Int := LxM.hd (s.data.toList.drop k)
theorem drop_cons (s : ByteArray) (k : Nat) (h : k < s.size) : s.data.toList.drop k = s[k] :: s.data.toList.drop (k + 1) :=
  List.drop_eq_getElem_cons (by simpa using h)
theorem drop_none (s : ByteArray) (k : Nat) (h : s.size ≤ k) : s.data.toList.drop k = [] := List.drop_eq_nil_of_le (by simpa using h)
theorem pk_in (s : ByteArray) (k : Nat) (h : k < s.size) : pk s k = (s[k].toNat : Int) := by unfold pk; rw [drop_cons s k h]; rfl
theorem pk_end (s : ByteArray) (k : Nat) (h : s.size ≤ k) : pk s k = -1 := by unfold pk; rw [drop_none s k h]; rfl
theorem pk_lo (s : ByteArray) (k : Nat) : -1 ≤ pk s k ∧ pk s k ≤ 255 := by
  by_cases h : k < s.size
  · rw [pk_in s k h]; have := s[k].toNat_lt; omega
  · rw [pk_end s k (by omega)]; omega
set_option maxHeartbeats 1000000 in
theorem peek_any (W : World) (g : Nat) (s : ByteArray) (f k : Nat) (tv : Value) (h : Rb W g s f k tv) (hk : k ≤ s.size) (hs : s.size ≤ 16384) :
    Calls Tryd.prog 29 #[.pointer (some ⟨g, 0, none⟩)] W fun e W' => e = .returned (.int .i64 (pk s k)) ∧ Sm W W' := by
  obtain ⟨c0, c1, c2, c3, -, -, -⟩ := h.four
  clear h
  by_cases hlt : k < s.size
  · rw [pk_in s k hlt]
    have ne : decide ((k : Int) = (s.size : Int)) = false := decide_eq_false (by omega)
    have nb : ((k : Int) == (s.size : Int)) = false := by rw [beq_eq_false_iff_ne]; omega
    have hi : (k : Int) < (s.size : Int) := by omega
    have hw : wrap64 (s[k].toNat : Int) = (s[k].toNat : Int) := by have := s[k].toNat_lt; unfold wrap64; omega
    go_enter Tryd.func29, Tryd.ntmps29
    go_wp2_with (go_quiet (fail))
    go_ret
    exact ⟨by show Ending.returned (.int .i64 (wrap64 (s[k].toNat : Int))) = _; rw [hw], ⟨rfl, rfl, rfl, rfl⟩⟩
  · obtain rfl : k = s.size := by omega
    rw [pk_end s _ (Nat.le_refl _)]
    have ne : decide ((s.size : Int) = (s.size : Int)) = true := decide_eq_true rfl
    go_enter Tryd.func29, Tryd.ntmps29
    go_wp2_with (go_quiet (fail))
    go_ret
    exact ⟨rfl, ⟨rfl, rfl, rfl, rfl⟩⟩
set_option maxHeartbeats 1000000 in
theorem take_any (W : World) (g : Nat) (s : ByteArray) (f k : Nat) (tv : Value) (h : Rb W g s f k tv) (hk : k ≤ s.size) (hs : s.size ≤ 16384) :
    Calls Tryd.prog 27 #[.pointer (some ⟨g, 0, none⟩)] W fun e W' => e = .returned (.int .i64 (pk s k)) ∧ Rb W' g s f (if k < s.size then k + 1 else k) tv ∧ W.grownBy W' (some g) := by
  have PA := Lib.hid (peek_any W g s f k tv h hk hs)
  have H := Lib.hid h
  have h01 := pk_lo s k
  by_cases hlt : k < s.size
  · rw [if_pos hlt]
    have hp := pk_in s k hlt
    have e1 : ((pk s k) == (-1 : Int)) = false := by rw [beq_eq_false_iff_ne, hp]; omega
    have e2 : wrap64 ((k : Int) + 1) = ((k + 1 : Nat) : Int) := by unfold wrap64; omega
    generalize pk s k = b at *
    clear h hp hlt
    go_enter Tryd.func27, Tryd.ntmps27
    go_wp2_with (go_at_call 29; refine PA.out.mono ?_; rintro e W1 ⟨rfl, sm⟩; obtain ⟨c0, c1, c2, c3, f1, f2, f3⟩ := (sm.rb H.out).four)
    go_ret
    exact ⟨rfl, (sm.rb H.out).put2 (k + 1), (sm.grown _).trans (grown_set _ _ _ _)⟩
  · rw [if_neg hlt]
    have hp := pk_end s k (by omega)
    rw [hp] at PA ⊢
    clear h hp hlt h01
    go_enter Tryd.func27, Tryd.ntmps27
    go_wp2_with (go_at_call 29; refine PA.out.mono ?_; rintro e W1 ⟨rfl, sm⟩)
    go_ret
    exact ⟨rfl, sm.rb H.out, sm.grown _⟩
set_option maxHeartbeats 1000000 in
theorem taken_any (W : World) (g : Nat) (s : ByteArray) (f k : Nat) (tv : Value) (h : Rb W g s f k tv) (hf : f ≤ k) (hk : k ≤ s.size) (hs : s.size ≤ 16384) :
    Calls Tryd.prog 32 #[.pointer (some ⟨g, 0, none⟩)] W fun e W' => e = .returned (.string (s.extract f k)) ∧ Sm W W' := by
  obtain ⟨c0, c1, c2, c3, -, -, -⟩ := h.four
  clear h
  have i1 : (0 : Int) ≤ (f : Int) := by omega
  have i2 : (f : Int) ≤ (k : Int) := by omega
  have i3 : (k : Int) ≤ (s.size : Int) := by omega
  go_enter Tryd.func32, Tryd.ntmps32
  go_wp2_with (go_quiet (fail))
  go_ret
  exact ⟨rfl, ⟨rfl, rfl, rfl, rfl⟩⟩
end Go.Proofs.YtikbgkndfmcfhaaDoor
