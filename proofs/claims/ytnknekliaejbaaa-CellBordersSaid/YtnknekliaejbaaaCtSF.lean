/- Package cell: tables of string: lower, Del. -/
import Derived.Test.YtnknekliaejbaaaCtSE
import Derived.Deep.RegionHeld3
namespace Go.Proofs.Ytnknekliaejbaaa.CtS
open Go.RowKit Go.Maps
set_option linter.unusedVariables false
section
variable {w w' : World} {g mb : Nat} {Z : Nat → Prop} {f l : Option Addr} {m : Int → Option Nat} {val : Int → Value} {c bd : Nat}
theorem key_eql (n : Int) (W : World) : (binOp .eql 29 (Kv n) (Kv n)).run Try.prog W = .ok (.bool true) W := by
  go_simp
set_option maxRecDepth 20000 in
set_option maxHeartbeats 2000000 in
theorem lower_top (h : St w g mb Z f l m val c bd) {n : Nat} (n1 : 1 ≤ n) (nb : n ≤ bd) (hk : bd ≤ 1000) :
    Calls Try.prog 15 #[.pointer (some ⟨g, 0, none⟩), Kv n] w fun e w' => e = .returned (.tuple #[]) ∧ St w' g mb Z f l m val c (n - 1) ∧ Only (fun b => b = g) w w' := by
  have K1 : Below w.heap.size w (w.alloc (Ks n)) := (Below.refl _ w).alloc (Nat.le_refl _) _
  have S1 := h.alloc (Ks n)
  have CK : ∀ i, (w.alloc (Ks n)).cell? ⟨w.heap.size, i, none⟩ = (#[.int .i64 2, .int .i64 n, .string ⟨#[]⟩] : Array Value)[i]? := fun i => World.cell?_alloc_new _ _ _ _
  have HS0 : Hid (((w.alloc (Ks n)).drew.cell? ⟨w.heap.size, 0, none⟩ = some (.int .i64 2) ∧ (w.alloc (Ks n)).drew.cell? ⟨w.heap.size, 1, none⟩ = some (.int .i64 n) ∧ (w.alloc (Ks n)).drew.cell? ⟨w.heap.size, 2, none⟩ = some (.string ⟨#[]⟩) ∧ (w.alloc (Ks n)).drew.cell? ⟨g, 3, none⟩ = some (.int .i64 (bd : Int)))) := ⟨CK 0, CK 1, CK 2, S1.c3⟩
  have HK : Hid (∀ W W' : World, Below W.heap.size W W' → (W.cell? ⟨w.heap.size, 0, none⟩ = some (.int .i64 2) ∧ W.cell? ⟨w.heap.size, 1, none⟩ = some (.int .i64 n) ∧ W.cell? ⟨w.heap.size, 2, none⟩ = some (.string ⟨#[]⟩) ∧ W.cell? ⟨g, 3, none⟩ = some (.int .i64 (bd : Int))) → (W'.cell? ⟨w.heap.size, 0, none⟩ = some (.int .i64 2) ∧ W'.cell? ⟨w.heap.size, 1, none⟩ = some (.int .i64 n) ∧ W'.cell? ⟨w.heap.size, 2, none⟩ = some (.string ⟨#[]⟩) ∧ W'.cell? ⟨g, 3, none⟩ = some (.int .i64 (bd : Int)))) := fun W W' hb h => by
    have lt : ∀ {p : Addr} {v : Value}, W.cell? p = some v → p.block < W.heap.size := fun {p v} h => by
      rcases Nat.lt_or_ge p.block W.heap.size with k | k
      · exact k
      · simp [World.cell?, Array.getElem?_eq_none k] at h
    exact ⟨(hb.cell (lt h.1)).trans h.1, (hb.cell (lt h.2.1)).trans h.2.1, (hb.cell (lt h.2.2.1)).trans h.2.2.1, (hb.cell (lt h.2.2.2)).trans h.2.2.2⟩
  have KE := key_eql (n : Int)
  have H1 := Lib.hid S1
  have HB := Lib.hid K1
  have gl := h.gl
  have p1 : (1 : Int) ≤ (n : Int) := by omega
  have p2 : (n : Int) ≤ (bd : Int) := by omega
  have p3 : (bd : Int) ≤ 1000 := by omega
  have q1 : decide ((1 : Int) ≤ (n : Int)) = true := by simpa using p1
  have q2 : decide ((n : Int) ≤ (bd : Int)) = true := by simpa using nb
  clear h K1 S1 CK n1 nb hk
  go_enter Try.func15, Try.ntmps15
  go_wp2_with fail
  go_region_held3 (fun W => W.cell? ⟨w.heap.size, 0, none⟩ = some (.int .i64 2) ∧ W.cell? ⟨w.heap.size, 1, none⟩ = some (.int .i64 n) ∧ W.cell? ⟨w.heap.size, 2, none⟩ = some (.string ⟨#[]⟩) ∧ W.cell? ⟨g, 3, none⟩ = some (.int .i64 (bd : Int))) (first | exact HS0.out | exact HK.out _ _ (by assumption) (by assumption) | assumption) (first
    | (go_at_call 23; with_reducible refine (integer_any _ _).mono ?_; rintro e w' ⟨rfl, hb⟩))
  all_goals
    have S2 := Lib.hid (H1.out.drew.below hb)
    have B2 := Lib.hid (HB.out.drew.trans (hb.mono HB.out.drew.size))
    have f3 := S2.out.free 3
    clear hb
    go_wp2_with fail
    go_end0
    have e : ((n : Int) - 1) = ((n - 1 : Nat) : Int) := by omega
    refine ⟨rfl, ?_, ?_⟩
    · rw [e]; exact S2.out.bord (n - 1)
    · exact (Only.of_below (F := fun b => b = g) B2.out).setCell (p := ⟨g, 3, none⟩) (.inl rfl) _
set_option maxRecDepth 20000 in
set_option maxHeartbeats 2000000 in
theorem del_top {G : Nat → Prop} (h : Rel w G g m val (c + 1) bd) {n s : Nat} (n1 : 1 ≤ n) (nb : n ≤ bd) (hm : m n = some s) :
    Calls Try.prog 9 #[.pointer (some ⟨g, 0, none⟩), Kv n] w fun e w' => e = .returned (.bool true) ∧ Rel w' G g (upd m n none) val c (n - 1) ∧ Only G w w' := by
  obtain ⟨mb, Z, f, l, st, bo, le, top, hG⟩ := h
  have BO : Hid (Border (upd m n none) (n - 1)) := ⟨fun j h1 h2 => by rw [upd_other _ _ (by omega)]; exact bo.1 j h1 (by omega), by rw [show (((n - 1 : Nat) : Int) + 1) = (n : Int) from by omega, upd_same]⟩
  have S := Lib.hid st
  have TOP := Lib.hid (up_top top (n := (n : Int)) (by omega) none)
  have HG := Lib.hid hG
  have HM := Lib.hid hm
  have i1 : Hid (In (n : Int)) := ⟨by omega, by omega⟩
  have gl : g < w.heap.size := st.gl
  have S1 : Hid (St (w.alloc (Ks n)) g mb Z f l m val (c + 1) bd) := st.alloc _
  have K1 : Hid (Below w.heap.size w (w.alloc (Ks n))) := (Below.refl _ w).alloc (Nat.le_refl _) _
  have CK : Hid (∀ i, (w.alloc (Ks n)).cell? ⟨w.heap.size, i, none⟩ = (#[.int .i64 2, .int .i64 n, .string ⟨#[]⟩] : Array Value)[i]?) := fun i => World.cell?_alloc_new _ _ _ _
  have NN : Hid (∀ b, (b = g ∨ b = mb ∨ Z b) → b ≠ w.heap.size) := fun b hb e => by
    rcases hb with k | k | k
    · omega
    · have := S.out.map.lt; omega
    · have := S.out.lt b k; omega
  clear st bo top hG hm
  go_enter Try.func9, Try.ntmps9
  go_wp2_with (first
    | (go_at_call 11; refine (find_any S1.out i1.out).mono ?_; rintro e w2 ⟨rfl, k2⟩; rw [HM.out, show ptr (some s) = some ⟨s, 0, none⟩ from rfl]; have K2 := Lib.hid (K1.out.trans (k2.mono K1.out.size)); have S2 := Lib.hid (S.out.below K2.out); have Q2 : Hid (w.heap.size < w2.heap.size) := Nat.lt_of_lt_of_le (by rw [World.size_alloc]; omega) k2.size; have E2 : Hid (∀ i, w2.cell? ⟨w.heap.size, i, none⟩ = (#[.int .i64 2, .int .i64 n, .string ⟨#[]⟩] : Array Value)[i]?) := (fun i => (k2.cell (p := ⟨w.heap.size, i, none⟩) (by rw [World.size_alloc]; exact Nat.lt_succ_self _)).trans (CK.out i)); clear k2)
    | (go_at_call 14; refine (remove_any S2.out i1.out HM.out).mono ?_; rintro e w3 ⟨rfl, f3, l3, s3, o3⟩; have S3 := Lib.hid s3; have O3 := Lib.hid o3; have q3 : w3.heap[w.heap.size]? = w2.heap[w.heap.size]? := (o3.block _ Q2.out (fun hb => NN.out _ hb rfl)); have d0 : w3.cell? ⟨w.heap.size, 0, none⟩ = some (.int .i64 2) := (World.cell?_of_block q3).trans (E2.out 0); have d1 : w3.cell? ⟨w.heap.size, 1, none⟩ = some (.int .i64 n) := (World.cell?_of_block q3).trans (E2.out 1); have d2 : w3.cell? ⟨w.heap.size, 2, none⟩ = some (.string ⟨#[]⟩) := (World.cell?_of_block q3).trans (E2.out 2); clear s3 o3 q3)
    | (go_at_call 15; refine (lower_top S3.out n1 nb le).mono ?_; rintro e w4 ⟨rfl, s4, o4⟩; have S4 := Lib.hid s4; have O4 := Lib.hid o4; clear s4 o4))
  go_ret
  refine ⟨rfl, ⟨mb, Z, _, _, S4.out, BO.out, by omega, TOP.out, HG.out⟩, ?_⟩
  exact ((Only.of_below (F := G) K2.out).trans O3.out (fun k hk => .inl (HG.out k hk))).trans O4.out (fun k hk => .inl (HG.out k (.inl hk)))
end
end Go.Proofs.Ytnknekliaejbaaa.CtS
