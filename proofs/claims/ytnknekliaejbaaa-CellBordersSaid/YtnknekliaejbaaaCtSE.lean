/- Package cell: tables of string: remove, lower, Del. -/
import Derived.Test.YtnknekliaejbaaaCtSD
namespace Go.Proofs.Ytnknekliaejbaaa.CtS
open Go.RowKit Go.Maps
set_option linter.unusedVariables false
section
variable {w w' : World} {g mb : Nat} {Z : Nat → Prop} {f l : Option Addr} {m : Int → Option Nat} {val : Int → Value} {c bd : Nat}
/-- The links led around the slot b, the key struck out. -/
theorem struck (h : St w g mb Z f l m val (c + 1) bd) {n : Int} {b : Nat} (hn : In n) (hm : m n = some b) {W : World} {f' l' : Option Addr} (s : St W g mb Z f' l' m val (c + 1) bd) :
    ∃ w5, (Builtin.delete_ #[35, 29] 0 #[.map (some mb), Kv n]).run Try.prog W = .ok (.tuple #[]) w5 ∧ St w5 g mb Z f' l' (upd m n none) val c bd ∧ W.grownBy w5 (some mb) := by
  obtain ⟨w5, hr, hm5, hg5⟩ := s.map.drop hn (by rw [hm]; rfl) 0
  refine ⟨w5, hr, s.turned hm5 hg5 fun k d hk hd => ?_, hg5⟩
  by_cases e : k = n
  · subst e; rw [upd_same] at hd; cases hd
  · rw [upd_other _ _ e] at hd; exact s.ent k d hk hd
/-- What remove leaves. -/
def Gone (w : World) (g mb : Nat) (Z : Nat → Prop) (m : Int → Option Nat) (val : Int → Value) (c bd : Nat) (n : Int) (w' : World) : Prop :=
  ∃ f l, St w' g mb Z f l (upd m n none) val c bd ∧ Only (fun b => b = g ∨ b = mb ∨ Z b) w w'
set_option maxRecDepth 20000 in
set_option maxHeartbeats 2000000 in
theorem remove_nn (h : St w g mb Z f l m val (c + 1) bd) {n : Int} {b : Nat} (hn : In n) (hm : m n = some b) (h4 : w.cell? ⟨b, 4, none⟩ = some (.pointer none)) (h5 : w.cell? ⟨b, 5, none⟩ = some (.pointer none)) :
    Calls Try.prog 14 #[.pointer (some ⟨g, 0, none⟩), .pointer (some ⟨b, 0, none⟩)] w fun e w' => e = .returned (.tuple #[]) ∧ Gone w g mb Z m val c bd n w' := by
  obtain ⟨zb, sl⟩ := h.ent n b hn hm
  have gl := h.gl
  have t1 := h.c1
  have f1 := h.free 1
  have s1 := h.first (.inl rfl)
  have g4 : (w.setCell ⟨g, 1, none⟩ (.pointer none)).cell? ⟨b, 4, none⟩ = some (.pointer none) := by
    rw [World.cell?_setCell_other _ _ _ _ (fun e => by injection e with _ e; omega), h4]
  have g5 : (w.setCell ⟨g, 1, none⟩ (.pointer none)).cell? ⟨b, 5, none⟩ = some (.pointer none) := by
    by_cases e : (⟨g, 1, none⟩ : Addr) = ⟨b, 5, none⟩
    · rw [e]; exact World.cell?_setCell_same _ _ _ h5
    · rw [World.cell?_setCell_other _ _ _ _ e, h5]
  have t2 := s1.c2
  have f2 := s1.free 2
  have s2 := s1.last (.inl rfl)
  have O1 : Only (fun b => b = g ∨ b = mb ∨ Z b) w ((w.setCell ⟨g, 1, none⟩ (.pointer none)).setCell ⟨g, 2, none⟩ (.pointer none)) := ((Only.refl _ w).setCell (p := ⟨g, 1, none⟩) (.inl (.inl rfl)) _).setCell (p := ⟨g, 2, none⟩) (.inl (.inl rfl)) _
  obtain ⟨w1, e1⟩ : ∃ w1, w.setCell ⟨g, 1, none⟩ (.pointer none) = w1 := ⟨_, rfl⟩
  rw [e1] at g4 g5 t2 f2 s2 O1
  obtain ⟨w2, e2⟩ : ∃ w2, w1.setCell ⟨g, 2, none⟩ (.pointer none) = w2 := ⟨_, rfl⟩
  rw [e2] at s2 O1
  obtain ⟨w5, hrun, s5, g5'⟩ := struck h hn hm s2.drew
  have O : Hid (Only (fun b => b = g ∨ b = mb ∨ Z b) w w5) := only_grown O1.drew g5' (.inl (.inr (.inl rfl)))
  have S5 := Lib.hid s5
  have c0 := s2.c0
  have sl2 := (s2.ent n b hn hm).2
  have k0 := sl2.k0
  have k1 := sl2.k1
  have k2 := sl2.k2
  clear h hn hm s1 s2 s5 g5' sl sl2 O1 zb
  go_enter Try.func14, Try.ntmps14
  go_wp2_with fail
  go_region
  go_wp2_with fail
  go_end0
  exact ⟨rfl, _, _, S5.out, O.out⟩
set_option maxRecDepth 20000 in
set_option maxHeartbeats 2000000 in
theorem remove_ns (h : St w g mb Z f l m val (c + 1) bd) {n : Int} {b : Nat} (hn : In n) (hm : m n = some b) {qb : Nat} (zq : Z qb) (h4 : w.cell? ⟨b, 4, none⟩ = some (.pointer none)) (h5 : w.cell? ⟨b, 5, none⟩ = some (.pointer (some ⟨qb, 0, none⟩))) :
    Calls Try.prog 14 #[.pointer (some ⟨g, 0, none⟩), .pointer (some ⟨b, 0, none⟩)] w fun e w' => e = .returned (.tuple #[]) ∧ Gone w g mb Z m val c bd n w' := by
  obtain ⟨zb, sl⟩ := h.ent n b hn hm
  have gl := h.gl
  have t1 := h.c1
  have f1 := h.free 1
  have s1 := h.first (.inr ⟨qb, zq, rfl⟩)
  have g4 : (w.setCell ⟨g, 1, none⟩ (.pointer (some ⟨qb, 0, none⟩))).cell? ⟨b, 4, none⟩ = some (.pointer none) := by
    rw [World.cell?_setCell_other _ _ _ _ (fun e => by injection e with _ e; omega), h4]
  have g5 : (w.setCell ⟨g, 1, none⟩ (.pointer (some ⟨qb, 0, none⟩))).cell? ⟨b, 5, none⟩ = some (.pointer (some ⟨qb, 0, none⟩)) := by
    by_cases e : (⟨g, 1, none⟩ : Addr) = ⟨b, 5, none⟩
    · rw [e]; exact World.cell?_setCell_same _ _ _ h5
    · rw [World.cell?_setCell_other _ _ _ _ e, h5]
  obtain ⟨u2, t2, -⟩ := s1.z4 qb zq
  have f2 := s1.zfree qb 4 zq
  have s2 := s1.bef zq (.inl rfl)
  have O1 : Only (fun b => b = g ∨ b = mb ∨ Z b) w ((w.setCell ⟨g, 1, none⟩ (.pointer (some ⟨qb, 0, none⟩))).setCell ⟨qb, 4, none⟩ (.pointer none)) := ((Only.refl _ w).setCell (p := ⟨g, 1, none⟩) (.inl (.inl rfl)) _).setCell (p := ⟨qb, 4, none⟩) (.inl (.inr (.inr zq))) _
  obtain ⟨w1, e1⟩ : ∃ w1, w.setCell ⟨g, 1, none⟩ (.pointer (some ⟨qb, 0, none⟩)) = w1 := ⟨_, rfl⟩
  rw [e1] at g4 g5 t2 f2 s2 O1
  obtain ⟨w2, e2⟩ : ∃ w2, w1.setCell ⟨qb, 4, none⟩ (.pointer none) = w2 := ⟨_, rfl⟩
  rw [e2] at s2 O1
  obtain ⟨w5, hrun, s5, g5'⟩ := struck h hn hm s2.drew.drew
  have O : Hid (Only (fun b => b = g ∨ b = mb ∨ Z b) w w5) := only_grown O1.drew.drew g5' (.inl (.inr (.inl rfl)))
  have S5 := Lib.hid s5
  have c0 := s2.c0
  have sl2 := (s2.ent n b hn hm).2
  have k0 := sl2.k0
  have k1 := sl2.k1
  have k2 := sl2.k2
  clear h hn hm s1 s2 s5 g5' sl sl2 O1 zb
  go_enter Try.func14, Try.ntmps14
  go_wp2_with fail
  go_region
  go_wp2_with fail
  go_region
  go_wp2_with fail
  go_end0
  exact ⟨rfl, _, _, S5.out, O.out⟩
set_option maxRecDepth 20000 in
set_option maxHeartbeats 2000000 in
theorem remove_sn (h : St w g mb Z f l m val (c + 1) bd) {n : Int} {b : Nat} (hn : In n) (hm : m n = some b) {pb : Nat} (zp : Z pb) (h4 : w.cell? ⟨b, 4, none⟩ = some (.pointer (some ⟨pb, 0, none⟩))) (h5 : w.cell? ⟨b, 5, none⟩ = some (.pointer none)) :
    Calls Try.prog 14 #[.pointer (some ⟨g, 0, none⟩), .pointer (some ⟨b, 0, none⟩)] w fun e w' => e = .returned (.tuple #[]) ∧ Gone w g mb Z m val c bd n w' := by
  obtain ⟨zb, sl⟩ := h.ent n b hn hm
  have gl := h.gl
  obtain ⟨u1, t1, -⟩ := h.z5 pb zp
  have f1 := h.zfree pb 5 zp
  have s1 := h.aft zp (.inl rfl)
  have g4 : (w.setCell ⟨pb, 5, none⟩ (.pointer none)).cell? ⟨b, 4, none⟩ = some (.pointer (some ⟨pb, 0, none⟩)) := by
    rw [World.cell?_setCell_other _ _ _ _ (fun e => by injection e with _ e; omega), h4]
  have g5 : (w.setCell ⟨pb, 5, none⟩ (.pointer none)).cell? ⟨b, 5, none⟩ = some (.pointer none) := by
    by_cases e : (⟨pb, 5, none⟩ : Addr) = ⟨b, 5, none⟩
    · rw [e]; exact World.cell?_setCell_same _ _ _ h5
    · rw [World.cell?_setCell_other _ _ _ _ e, h5]
  have t2 := s1.c2
  have f2 := s1.free 2
  have s2 := s1.last (.inr ⟨pb, zp, rfl⟩)
  have O1 : Only (fun b => b = g ∨ b = mb ∨ Z b) w ((w.setCell ⟨pb, 5, none⟩ (.pointer none)).setCell ⟨g, 2, none⟩ (.pointer (some ⟨pb, 0, none⟩))) := ((Only.refl _ w).setCell (p := ⟨pb, 5, none⟩) (.inl (.inr (.inr zp))) _).setCell (p := ⟨g, 2, none⟩) (.inl (.inl rfl)) _
  obtain ⟨w1, e1⟩ : ∃ w1, w.setCell ⟨pb, 5, none⟩ (.pointer none) = w1 := ⟨_, rfl⟩
  rw [e1] at g4 g5 t2 f2 s2 O1
  obtain ⟨w2, e2⟩ : ∃ w2, w1.setCell ⟨g, 2, none⟩ (.pointer (some ⟨pb, 0, none⟩)) = w2 := ⟨_, rfl⟩
  rw [e2] at s2 O1
  obtain ⟨w5, hrun, s5, g5'⟩ := struck h hn hm s2.drew.drew
  have O : Hid (Only (fun b => b = g ∨ b = mb ∨ Z b) w w5) := only_grown O1.drew.drew g5' (.inl (.inr (.inl rfl)))
  have S5 := Lib.hid s5
  have c0 := s2.c0
  have sl2 := (s2.ent n b hn hm).2
  have k0 := sl2.k0
  have k1 := sl2.k1
  have k2 := sl2.k2
  clear h hn hm s1 s2 s5 g5' sl sl2 O1 zb
  go_enter Try.func14, Try.ntmps14
  go_wp2_with fail
  go_region
  go_wp2_with fail
  go_region
  go_wp2_with fail
  go_end0
  exact ⟨rfl, _, _, S5.out, O.out⟩
set_option maxRecDepth 20000 in
set_option maxHeartbeats 2000000 in
theorem remove_ss (h : St w g mb Z f l m val (c + 1) bd) {n : Int} {b : Nat} (hn : In n) (hm : m n = some b) {pb : Nat} (zp : Z pb) {qb : Nat} (zq : Z qb) (h4 : w.cell? ⟨b, 4, none⟩ = some (.pointer (some ⟨pb, 0, none⟩))) (h5 : w.cell? ⟨b, 5, none⟩ = some (.pointer (some ⟨qb, 0, none⟩))) :
    Calls Try.prog 14 #[.pointer (some ⟨g, 0, none⟩), .pointer (some ⟨b, 0, none⟩)] w fun e w' => e = .returned (.tuple #[]) ∧ Gone w g mb Z m val c bd n w' := by
  obtain ⟨zb, sl⟩ := h.ent n b hn hm
  have gl := h.gl
  obtain ⟨u1, t1, -⟩ := h.z5 pb zp
  have f1 := h.zfree pb 5 zp
  have s1 := h.aft zp (.inr ⟨qb, zq, rfl⟩)
  have g4 : (w.setCell ⟨pb, 5, none⟩ (.pointer (some ⟨qb, 0, none⟩))).cell? ⟨b, 4, none⟩ = some (.pointer (some ⟨pb, 0, none⟩)) := by
    rw [World.cell?_setCell_other _ _ _ _ (fun e => by injection e with _ e; omega), h4]
  have g5 : (w.setCell ⟨pb, 5, none⟩ (.pointer (some ⟨qb, 0, none⟩))).cell? ⟨b, 5, none⟩ = some (.pointer (some ⟨qb, 0, none⟩)) := by
    by_cases e : (⟨pb, 5, none⟩ : Addr) = ⟨b, 5, none⟩
    · rw [e]; exact World.cell?_setCell_same _ _ _ h5
    · rw [World.cell?_setCell_other _ _ _ _ e, h5]
  obtain ⟨u2, t2, -⟩ := s1.z4 qb zq
  have f2 := s1.zfree qb 4 zq
  have s2 := s1.bef zq (.inr ⟨pb, zp, rfl⟩)
  have O1 : Only (fun b => b = g ∨ b = mb ∨ Z b) w ((w.setCell ⟨pb, 5, none⟩ (.pointer (some ⟨qb, 0, none⟩))).setCell ⟨qb, 4, none⟩ (.pointer (some ⟨pb, 0, none⟩))) := ((Only.refl _ w).setCell (p := ⟨pb, 5, none⟩) (.inl (.inr (.inr zp))) _).setCell (p := ⟨qb, 4, none⟩) (.inl (.inr (.inr zq))) _
  obtain ⟨w1, e1⟩ : ∃ w1, w.setCell ⟨pb, 5, none⟩ (.pointer (some ⟨qb, 0, none⟩)) = w1 := ⟨_, rfl⟩
  rw [e1] at g4 g5 t2 f2 s2 O1
  obtain ⟨w2, e2⟩ : ∃ w2, w1.setCell ⟨qb, 4, none⟩ (.pointer (some ⟨pb, 0, none⟩)) = w2 := ⟨_, rfl⟩
  rw [e2] at s2 O1
  obtain ⟨w5, hrun, s5, g5'⟩ := struck h hn hm s2.drew.drew.drew
  have O : Hid (Only (fun b => b = g ∨ b = mb ∨ Z b) w w5) := only_grown O1.drew.drew.drew g5' (.inl (.inr (.inl rfl)))
  have S5 := Lib.hid s5
  have c0 := s2.c0
  have sl2 := (s2.ent n b hn hm).2
  have k0 := sl2.k0
  have k1 := sl2.k1
  have k2 := sl2.k2
  clear h hn hm s1 s2 s5 g5' sl sl2 O1 zb
  go_enter Try.func14, Try.ntmps14
  go_wp2_with fail
  go_region
  go_wp2_with fail
  go_region
  go_wp2_with fail
  go_region
  go_wp2_with fail
  go_end0
  exact ⟨rfl, _, _, S5.out, O.out⟩
theorem remove_any (h : St w g mb Z f l m val (c + 1) bd) {n : Int} {b : Nat} (hn : In n) (hm : m n = some b) :
    Calls Try.prog 14 #[.pointer (some ⟨g, 0, none⟩), .pointer (some ⟨b, 0, none⟩)] w fun e w' => e = .returned (.tuple #[]) ∧ Gone w g mb Z m val c bd n w' := by
  obtain ⟨zb, -⟩ := h.ent n b hn hm
  obtain ⟨p, h4, hp⟩ := h.z4 b zb
  obtain ⟨q, h5, hq⟩ := h.z5 b zb
  rcases hp with rfl | ⟨pb, zp, rfl⟩ <;> rcases hq with rfl | ⟨qb, zq, rfl⟩
  · exact remove_nn h hn hm h4 h5
  · exact remove_ns h hn hm zq h4 h5
  · exact remove_sn h hn hm zp h4 h5
  · exact remove_ss h hn hm zp zq h4 h5
end
end Go.Proofs.Ytnknekliaejbaaa.CtS
