/- Package scope: Builtin; the walker's small functions: fault, has, end. -/
import Derived.Test.YteakhlnnepjhpaaScRx
import Derived.BigRegion
namespace Go.Proofs.Yteakhlnnepjhpaa
open Go.RowKit
set_option linter.unusedVariables false
set_option linter.unusedSimpArgs false
theorem eqBytes {s : ByteArray} {l : List UInt8} (h : (s.toList == l) = true) : s.data.toList = l := by rw [← Go.ByteArray.toList_eq]; exact eq_of_beq h
theorem tfB {p : Prop} {b : Bool} (h : b = true) (k : b = false) : p := by rw [h] at k; cases k
theorem blt_cong {s t : ByteArray} (h : s.data.toList = t.data.toList) : ScM.builtin s = ScM.builtin t := by unfold ScM.builtin ScM.has ScM.is; rw [h]
set_option maxRecDepth 20000 in
set_option maxHeartbeats 2000000 in
theorem builtin_any (s : ByteArray) (w : World) :
  Calls Try.prog 9 #[.string s] w fun e w' => e = .returned (.bool (ScM.builtin s)) ∧ w = w' := by
 go_enter Try.func9, Try.ntmps9
 go_wp2_with fail
 all_goals first
  |(refine tfB (b := _ == _) (by assumption) (by assumption))
  |(rename_i h; have e := eqBytes h; go_ret; exact ⟨by unfold ScM.builtin ScM.has ScM.is; rw [e]; rfl, rfl⟩)
  |(go_ret; refine ⟨bool_ret ?_, rfl⟩; simp_all [ScM.builtin, ScM.has, ScM.is, ScM.builtins, Go.ByteArray.toList_eq])
section
variable {w w' : World} {B g mb ob : Nat} {vi vo : Value} {S : List It} {st st' : ScM.Sc}
/-- Cells of the walker's own block alone have been stored. -/
theorem WR.put (h : WR w B g vi vo mb ob S st) (k : Only (fun b => b = g) w w') (b : Blk w' g (wcs vi vo mb ob st') 62)
  (e1 : st'.names = st.names) (e2 : st'.outer = st.outer) (e3 : st.ct ≤ st'.ct) (e4 : st'.own ≤ st'.ct) (e5 : st'.loops ≤ st'.ct) (e6 : st'.ct ≤ 1000000000000) : WR w' B g vi vo mb ob S st' := by
 have s : ∀ q, q < w.heap.size → q ≠ g → w'.heap[q]? = w.heap[q]? := fun q l n => k.block q l n
 refine ⟨b, own_same h.items fun q e => s q (own_lt h.items q e).2 fun x => own_blk h.items h.blk (by decide) (x ▸ e), (h.cnt.same (s mb h.cnt.lt (map_blk h.cnt h.blk))).wide e3, ?_, ?_, h.hg, h.hm, h.ho, h.ne, by rw [e1]; exact h.names, Nat.le_trans h.len e3, by rw [e2]; exact Nat.le_trans h.olen e3, e4, e5, by rw [e1]; exact h.short, e6⟩
 ·rw [e2]; exact own_same h.outer fun q e => s q (own_lt h.outer q e).2 fun x => own_blk h.outer h.blk (by decide) (x ▸ e)
 ·rw [e2]; exact (h.out.same (s ob h.out.lt (out_blk h.out h.blk))).wide e3
theorem Kp.one {b : Bool} {g : Nat} {cs : Array Value} (o : Only (fun b => b = g) w w') (k : Blk w g cs 62) (hg : B ≤ g) : Kp B b w w' :=
 ⟨o.below (fun n e => by omega) (by have := k.lt; omega), fun q cs' ty a _ y _ => by
  refine (o.block q a.lt fun e => ?_).trans a
  subst e
  have a : w.heap[q]? = _ := a
  have k : w.heap[q]? = _ := k
  rw [a] at k
  injection k with k
  injection k with _ k
  exact y k⟩
theorem blkW45 {W : World} {b : Nat} {v0 v1 v2 v3 v4 v5 v6 v7 : Value} {t : TypeId} (h : Blk W b #[v0, v1, v2, v3, v4, v5, v6, v7] t) (u x : Value) : Blk ((W.setCell ⟨b, 4, none⟩ u).setCell ⟨b, 5, none⟩ x) b #[v0, v1, v2, v3, u, x, v6, v7] t := by
 have h : W.heap[b]? = _ := h
 show _ = _
 simp [World.setCell, Array.getElem?_modify, h]
set_option maxHeartbeats 2000000 in
/-- fault. -/
theorem fault_s (h : WR w B g vi vo mb ob S st) (c a : Int) :
  Calls Try.prog 70 #[.pointer (some ⟨g, 0, none⟩), .int .i64 c, .int .i64 a] w fun e w' => e = .returned (.tuple #[]) ∧ WR w' B g vi vo mb ob S (ScM.fault c a st) ∧ Kp B true w w' := by
 obtain ⟨⟨c0, c1, c2, c3, c4, c5, c6, c7⟩, f0, f1, f2, f3, f4, f5, f6, f7⟩ := h.blk.eight
 have H := Lib.hid h
 unfold ScM.fault
 by_cases q : st.err = 0
 ·rw [if_pos q]
  have q0 : (st.err == 0) = true := by rw [q]; rfl
  clear h q
  go_enter Try.func70, Try.ntmps70
  go_wp2_with fail
  go_end0
  have o := ((Only.refl (fun b => b = g) w).setCell (p := ⟨g, 4, none⟩) (.inl rfl) (.int .i64 c)).setCell (p := ⟨g, 5, none⟩) (.inl rfl) (.int .i64 a)
  exact ⟨rfl, H.out.put o (blkW45 H.out.blk _ _) rfl rfl (Nat.le_refl _) H.out.own H.out.loops H.out.max, Kp.one o H.out.blk H.out.hg⟩
 ·rw [if_neg q]
  have q0 : (st.err == 0) = false := by rw [beq_eq_false_iff_ne]; exact q
  clear h q
  go_enter Try.func70, Try.ntmps70
  go_wp2_with fail
  go_end0
  exact ⟨rfl, H.out, Kp.refl _ _ _⟩
set_option maxHeartbeats 2000000 in
/-- has. -/
theorem has_s (h : WR w B g vi vo mb ob S st) (s : ByteArray) (hs : s.size ≤ maxLen) :
  Calls Try.prog 71 #[.pointer (some ⟨g, 0, none⟩), .string s] w fun e w' => e = .returned (.bool (ScM.has st.names s)) ∧ w = w' := by
 obtain ⟨⟨c0, c1, c2, c3, c4, c5, c6, c7⟩, f0, f1, f2, f3, f4, f5, f6, f7⟩ := h.blk.eight
 have L := h.cnt.look s hs
 rw [h.names] at L
 rw [has_cnt]
 obtain ⟨n, hn⟩ : ∃ n, cntB st.names s.data.toList = n := ⟨_, rfl⟩
 rw [hn] at L ⊢
 clear h hn
 go_enter Try.func71, Try.ntmps71
 go_wp2_with fail
 go_ret
 exact ⟨bool_ret (by simp), rfl⟩
end
end Go.Proofs.Yteakhlnnepjhpaa
