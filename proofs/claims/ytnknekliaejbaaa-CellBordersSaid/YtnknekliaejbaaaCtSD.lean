/- Package cell: tables of string: raise, Put. -/
import Derived.Test.YtnknekliaejbaaaCtSC
import Derived.Deep.LoopGhost
namespace Go.Proofs.Ytnknekliaejbaaa.CtS
open Go.RowKit Go.Maps
set_option linter.unusedVariables false
section
variable {w w' : World} {g mb : Nat} {Z : Nat → Prop} {f l : Option Addr} {m : Int → Option Nat} {val : Int → Value} {c bd : Nat}
set_option maxRecDepth 20000 in
set_option maxHeartbeats 1000000 in
theorem raise_any (h : St w g mb Z f l m val c bd) (hb : ∀ j : Nat, 1 ≤ j → j ≤ bd → (m j).isSome = true) (hk : bd ≤ 1000) (top : ∀ n : Int, In n → 1000 < n → m n = none) :
    Calls Try.prog 13 #[.pointer (some ⟨g, 0, none⟩)] w fun e w' => e = .returned (.tuple #[]) ∧ ∃ b2, St w' g mb Z f l m val c b2 ∧ Border m b2 ∧ b2 ≤ 1000 ∧ Only (fun b => b = g) w w' := by
  have H := Lib.hid h
  have HB := Lib.hid hb
  have TOP := Lib.hid top
  clear h hb top
  go_enter Try.func13, Try.ntmps13
  go_wp2_with fail
  go_loopg [2] (1000 - bd) (fun k _ wr => ∃ b2, St wr g mb Z f l m val c b2 ∧ (∀ j : Nat, 1 ≤ j → j ≤ b2 → (m j).isSome = true) ∧ b2 ≤ 1000 ∧ k = 1000 - b2 ∧ Only (fun b => b = g) w wr)
  case atStart => exact ⟨bd, H.out, HB.out, hk, rfl, Only.refl _ _⟩
  case round =>
    obtain ⟨b2, st, hb2, le, hgk, on⟩ := hrel
    have S := Lib.hid st
    have B2 := Lib.hid hb2
    have O := Lib.hid on
    have GK := Lib.hid hgk
    have gl : g < wr.heap.size := st.gl
    have c3 := st.c3
    have p0 : (0 : Int) ≤ (b2 : Int) := by omega
    have p1 : (b2 : Int) ≤ 1000 := by omega
    have i1 : In ((b2 : Int) + 1) := ⟨by omega, by omega⟩
    clear st hb2 on hgk
    rcases hm : m ((b2 : Int) + 1) with _ | s
    · have BB : Hid (Border m b2) := ⟨B2.out, hm⟩
      have HM := Lib.hid hm
      clear hm
      go_wp2_with (first
        | (go_at_call 23; refine (integer_any _ _).mono ?_; rintro e w1 ⟨rfl, k1⟩; have K1 := Lib.hid k1; clear k1)
        | (go_at_call 11; refine (find_any (S.out.below K1.out) i1).mono ?_; rintro e w2 ⟨rfl, k2⟩; rw [HM.out, show ptr none = none from rfl]; have K2 := Lib.hid (K1.out.trans (k2.mono K1.out.size)); clear k2))
      go_end0
      exact ⟨rfl, b2, S.out.below K2.out, BB.out, le, O.out.trans (Only.of_below (F := fun _ => False) K2.out) (fun _ e => e.elim)⟩
    · have lt : b2 < 1000 := by
        rcases Nat.lt_or_ge b2 1000 with k | k
        · exact k
        · rw [TOP.out _ i1 (by omega)] at hm; cases hm
      have B3 : Hid (∀ j : Nat, 1 ≤ j → j ≤ b2 + 1 → (m j).isSome = true) := fun j h1 h2 => by
        rcases Nat.lt_or_ge b2 j with k | k
        · obtain rfl : j = b2 + 1 := by omega
          rw [show ((b2 + 1 : Nat) : Int) = (b2 : Int) + 1 from by omega, hm]; rfl
        · exact B2.out j h1 k
      have HM := Lib.hid hm
      clear hm
      go_wp2_with (first
        | (go_at_call 23; refine (integer_any _ _).mono ?_; rintro e w1 ⟨rfl, k1⟩; have K1 := Lib.hid k1; clear k1)
        | (go_at_call 11; refine (find_any (S.out.below K1.out) i1).mono ?_; rintro e w2 ⟨rfl, k2⟩; rw [HM.out, show ptr (some s) = some ⟨s, 0, none⟩ from rfl]; have K2 := Lib.hid (K1.out.trans (k2.mono K1.out.size)); have S2 := Lib.hid (S.out.below K2.out); clear k2; have g3 := S2.out.c3; have g2 := S2.out.free 3; have gg : g < w2.heap.size := S2.out.gl))
      go_roundg (1000 - (b2 + 1))
      case measure => have := GK.out; omega
      case rel => exact ⟨b2 + 1, by have := S2.out.bord (b2 + 1); exact this, B3.out, by omega, rfl, (O.out.trans (Only.of_below (F := fun _ => False) K2.out) (fun _ e => e.elim)).setCell (p := ⟨g, 3, none⟩) (.inl rfl) _⟩
theorem up_border {n : Int} (h : Border m bd) (s : Nat) : ∀ j : Nat, 1 ≤ j → j ≤ bd → (upd m n (some s) j).isSome = true := fun j h1 h2 => by
  by_cases e : (j : Int) = n
  · rw [e, upd_same]; rfl
  · rw [upd_other _ _ e]; exact h.1 j h1 h2
theorem up_top {n : Int} (h : ∀ n : Int, In n → 1000 < n → m n = none) (hn : n ≤ 1000) (o : Option Nat) : ∀ k : Int, In k → 1000 < k → upd m n o k = none := fun k h1 h2 => by
  rw [upd_other _ _ (by omega)]; exact h k h1 h2
/-- A table whose blocks lie in G. -/
def Rel (w : World) (G : Nat → Prop) (g : Nat) (m : Int → Option Nat) (val : Int → Value) (c bd : Nat) : Prop :=
  ∃ mb Z f l, St w g mb Z f l m val c bd ∧ Border m bd ∧ bd ≤ 1000 ∧ (∀ n : Int, In n → 1000 < n → m n = none) ∧ (∀ k, k = g ∨ k = mb ∨ Z k → G k)
theorem Rel.same {G : Nat → Prop} (h : Rel w G g m val c bd) (hs : w.heap.size ≤ w'.heap.size) (k : ∀ b, G b → w'.heap[b]? = w.heap[b]?) : Rel w' G g m val c bd := by
  obtain ⟨mb, Z, f, l, st, bo, le, top, hG⟩ := h
  exact ⟨mb, Z, f, l, st.same hs fun b hb => k b (hG b hb), bo, le, top, hG⟩
theorem Rel.lt {G : Nat → Prop} (h : Rel w G g m val c bd) : g < w.heap.size := by
  obtain ⟨mb, Z, f, l, st, -⟩ := h
  exact st.gl
set_option maxRecDepth 20000 in
set_option maxHeartbeats 1000000 in
theorem put_new {G : Nat → Prop} (h : Rel w G g m val c bd) {n : Nat} {v : ByteArray} (hn : n ≤ 1000) (hm : m n = none) (hc : c ≤ 1000000) (hv : val n = .string v) :
    Calls Try.prog 6 #[.pointer (some ⟨g, 0, none⟩), Kv n, .string v] w fun e w' => e = .returned (.bool true) ∧ ∃ s b2, Rel w' (fun k => G k ∨ w.heap.size ≤ k) g (upd m n (some s)) val (c + 1) b2 ∧ Only G w w' := by
  obtain ⟨mb, Z, f, l, st, bo, le, top, hG⟩ := h
  have S := Lib.hid st
  have BO := Lib.hid bo
  have TOP := Lib.hid top
  have HG := Lib.hid hG
  have HM := Lib.hid hm
  have HV := Lib.hid hv
  have i1 : Hid (In (n : Int)) := ⟨by omega, by omega⟩
  have n1 : (n : Int) ≤ 1000 := by omega
  have gl : g < w.heap.size := st.gl
  have S1 : Hid (St (w.alloc (Ks n)) g mb Z f l m val c bd) := st.alloc _
  have K1 : Hid (Below w.heap.size w (w.alloc (Ks n))) := (Below.refl _ w).alloc (Nat.le_refl _) _
  have CK : Hid (∀ i, (w.alloc (Ks n)).cell? ⟨w.heap.size, i, none⟩ = (#[.int .i64 2, .int .i64 n, .string ⟨#[]⟩] : Array Value)[i]?) := fun i => World.cell?_alloc_new _ _ _ _
  clear st bo top hG hm hv
  go_enter Try.func6, Try.ntmps6
  go_wp2_with (first
    | (go_at_call 11; refine (find_any S1.out i1.out).mono ?_; rintro e w2 ⟨rfl, k2⟩; rw [HM.out, show ptr none = none from rfl]; have K2 := Lib.hid (K1.out.trans (k2.mono K1.out.size)); have S2 := Lib.hid (S.out.below K2.out); have d0 : w2.cell? ⟨w.heap.size, 0, none⟩ = some (.int .i64 2) := (k2.cell (p := ⟨w.heap.size, 0, none⟩) (by simp)).trans ((CK.out 0).trans rfl); have d1 : w2.cell? ⟨w.heap.size, 1, none⟩ = some (.int .i64 n) := (k2.cell (p := ⟨w.heap.size, 1, none⟩) (by simp)).trans ((CK.out 1).trans rfl); have d2 : w2.cell? ⟨w.heap.size, 2, none⟩ = some (.string ⟨#[]⟩) := (k2.cell (p := ⟨w.heap.size, 2, none⟩) (by simp)).trans ((CK.out 2).trans rfl); clear k2)
    | (go_at_call 12; refine (add_any S2.out i1.out HM.out (by unfold maxLen; omega) HV.out).mono ?_; rintro e w3 ⟨rfl, ad⟩; obtain ⟨s, f3, l3, hs, s3, o3⟩ := ad; have HS := Lib.hid hs; have S3 := Lib.hid s3; have O3 := Lib.hid o3; clear hs s3 o3)
    | (go_at_call 13; refine (raise_any S3.out (up_border BO.out s) le (up_top TOP.out n1 _)).mono ?_; rintro e w4 ⟨rfl, b2, s4, bo4, le4, o4⟩; have S4 := Lib.hid s4; have BO4 := Lib.hid bo4; have O4 := Lib.hid o4; clear s4 bo4 o4))
  go_ret
  refine ⟨rfl, s, b2, ⟨mb, _, _, _, S4.out, BO4.out, le4, up_top TOP.out n1 _, fun k hk => ?_⟩, ?_⟩
  · have := HS.out
    have := K2.out.size
    rcases hk with e | e | e | e
    · exact .inl (HG.out k (.inl e))
    · exact .inl (HG.out k (.inr (.inl e)))
    · exact .inl (HG.out k (.inr (.inr e)))
    · exact .inr (by omega)
  · exact ((Only.of_below (F := G) K2.out).trans O3.out (fun k hk => .inl (HG.out k hk))).trans O4.out (fun k hk => .inl (HG.out k (.inl hk)))
end
end Go.Proofs.Ytnknekliaejbaaa.CtS
