/- Package value: Get, at the bytes of a string, and at none. -/
import Derived.Test.YtgokjdlemfaagaaVlRd
namespace Go.Proofs.Ytgokjdlemfaagaa
open Go.RowKit
set_option linter.unusedVariables false
theorem Blk.grown {W W' : World} {b r : Nat} {cs : Array Value} {t : TypeId} (h : Blk W b cs t) (g : W.grownBy W' (some r)) (hne : b ≠ r) : Blk W' b cs t :=
  (g.block b (Array.getElem?_eq_some_iff.1 h).1 (fun e => hne (Option.some.inj e))).trans h
theorem Blk.lt {W : World} {b : Nat} {cs : Array Value} {t : TypeId} (h : Blk W b cs t) : b < W.heap.size := (Array.getElem?_eq_some_iff.1 h).1
theorem Blk.ice {W : World} {b : Nat} {cs : Array Value} {t : TypeId} (h : Blk W b cs t) (i : Nat) : W.frozen? ⟨b, i, none⟩ = false := by
  have h : W.heap[b]? = _ := h
  simp [World.frozen?, h]
theorem Rd.alloc {W : World} {r B : Nat} {l : List UInt8} {f : Bool} (h : Rd W r B l f) (o : Obj) : Rd (W.alloc o) r B l f := by
  obtain ⟨A, c, hb, hA, hc, hs, hB⟩ := h
  have al : Below W.heap.size W (W.alloc o) := (Below.refl _ _).alloc (Nat.le_refl _) o
  exact ⟨A, c, hb.below al, hA, hc, hs.below (al.mono (by have := hb.lt; omega)), hB⟩
theorem Rd.lt {W : World} {r B : Nat} {l : List UInt8} {f : Bool} (h : Rd W r B l f) : r < W.heap.size := by
  obtain ⟨A, c, hb, _⟩ := h
  exact hb.lt
theorem Rd.aside {W : World} {r B : Nat} {l : List UInt8} {f : Bool} (h : Rd W r B l f) {p : Addr} (hp : r < p.block) (v : Value) : Rd (W.setCell p v) r B l f := by
  obtain ⟨A, c, hb, hA, hc, hs, hB⟩ := h
  refine ⟨A, c, hb.aside (by omega) _, hA, hc, hs.same fun q hq => ?_, hB⟩
  exact World.cell?_of_block (Below.heap_setCell _ _ _ _ (by omega))
theorem Blk.fill {W : World} {b : Nat} {u0 u1 u2 u3 u4 u5 v0 v1 v2 v3 v4 v5 : Value} {t : TypeId} (h : Blk W b #[u0, u1, u2, u3, u4, u5] t) :
    Blk ((((((W.setCell ⟨b, 0, none⟩ v0).setCell ⟨b, 1, none⟩ v1).setCell ⟨b, 2, none⟩ v2).setCell ⟨b, 3, none⟩ v3).setCell ⟨b, 4, none⟩ v4).setCell ⟨b, 5, none⟩ v5) b #[v0, v1, v2, v3, v4, v5] t := by
  unfold Blk at h ⊢
  simp [World.setCell, Array.getElem?_modify, h]
theorem grown_new {W W' : World} {row : Option Nat} (g : W.grownBy W' row) {p : Addr} (hp : W.heap.size ≤ p.block) (v : Value) : W.grownBy (W'.setCell p v) row :=
  ⟨g.os, g.tape, g.output, Nat.le_trans g.size (KeepsWalks.setCell W' p v).size, fun k hk hr => (Below.heap_setCell _ _ _ k (by omega)).trans (g.block k hk hr)⟩
theorem res_value {fn : Func} {p : Tmp} (h : fn.results = #[.cell p 29]) (tmps : Array Value) (w : World) (g : Nat) (t : TypeId) (v0 v1 v2 v3 v4 v5 : Value)
    (hp : tmps.getD p undef = .pointer (some ⟨g, 0, none⟩)) (hg : Blk w g #[v0, v1, v2, v3, v4, v5] t) :
    (results fn tmps).run Try.prog w = .ok (.agg #[v0, v1, v2, v3, v4, v5]) w := results_cell_row h tmps w g t _ (0, 0) _ hp hg Try.underlying29 rfl (by kernel_rfl)
theorem res_value_tmp {fn : Func} {p u : Tmp} (h : fn.results = #[.cell p 29, .tmp u]) (tmps : Array Value) (w : World) (g : Nat) (t : TypeId) (v0 v1 v2 v3 v4 v5 : Value)
    (hp : tmps.getD p undef = .pointer (some ⟨g, 0, none⟩)) (hg : Blk w g #[v0, v1, v2, v3, v4, v5] t) :
    (results fn tmps).run Try.prog w = .ok (.tuple #[.agg #[v0, v1, v2, v3, v4, v5], tmps.getD u undef]) w := by
  have hl : (loadVar 29 ⟨g, 0, none⟩).run Try.prog w = .ok (.agg #[v0, v1, v2, v3, v4, v5]) w := run_loadVar_row w g t 29 _ (0, 0) _ hg Try.underlying29 rfl (by kernel_rfl)
  rw [results_cell_tmp h, hp]
  simp [asAddr, hl, Result.andThen]
set_option maxRecDepth 20000 in
set_option maxHeartbeats 2000000 in
theorem value_text (W : World) (r B n : Nat) (l : List UInt8) (f : Bool) (h : Rd W r B l f) (h1 : l.take 1 = [1]) (hn : bnum ((l.drop 1).take 4) = n) (hm : n ≤ 4096) (hk : 5 + n ≤ l.length) (hl : l.length ≤ 1048576) :
    Calls Try.prog 20 #[.pointer (some ⟨r, 0, none⟩)] W fun e W' => e = .returned (vagg ⟨((l.drop 5).take n).toArray⟩) ∧ Rd W' r B (l.drop (5 + n)) f ∧ W.grownBy W' (some r) := by
  have NM := Lib.hid (fun o => num_ok (W.alloc o) r B 1 l f (h.alloc o) (by omega) hl (by omega))
  have e1 : bnum (l.take 1) = 1 := by rw [h1]; rfl
  rw [e1] at NM
  have TX := Lib.hid (fun W' (k : Rd W' r B (l.drop 1) f) => text_ok W' r B n (l.drop 1) f k (by rw [List.length_drop]; omega) (by rw [List.length_drop]; omega) hn hm (by rw [List.length_drop]; omega))
  simp only [List.drop_drop] at TX
  have HR := Lib.hid h.lt
  unfold vagg
  clear h h1 hn hm hk hl e1
  go_enter Try.func20, Try.ntmps20
  go_wp2_with (go_at_call 36; refine (NM.out _).mono ?_; rintro e W1 ⟨rfl, hrd1, hg1⟩)
  have lt1 := hrd1.lt
  have ka0 := (Blk.new W #[.int .i64 0, .string ⟨#[]⟩, .slice none 0 0, .slice none 0 0, .slice none 0 0, .slice none 0 0] 29).grown hg1 (by have := HR.out; omega)
  have hab : W.heap.size < W1.heap.size := ka0.lt
  refine (TX.out _ (hrd1.alloc _)).mono ?_
  rintro e W2 ⟨rfl, hrd2, hg2⟩
  have ka := (ka0.below ((Below.refl _ W1).alloc (Nat.le_refl _) (.cells #[.int .i64 1, .string ⟨#[]⟩, .slice none 0 0, .slice none 0 0, .slice none 0 0, .slice none 0 0] 29))).grown hg2 (by have := HR.out; omega)
  have kb := (Blk.new W1 #[.int .i64 1, .string ⟨#[]⟩, .slice none 0 0, .slice none 0 0, .slice none 0 0, .slice none 0 0] 29).grown hg2 (by omega)
  have g3 : W.grownBy W2 (some r) := ((World.grownBy_alloc W _ _).trans hg1).trans ((World.grownBy_alloc W1 _ _).trans hg2)
  have KA := Lib.hid ka
  have KB := Lib.hid kb
  have G3 := Lib.hid g3
  have RD2 := Lib.hid hrd2
  have HAB := Lib.hid hab
  obtain ⟨a, ha⟩ : ∃ a, W.heap.size = a := ⟨_, rfl⟩
  obtain ⟨b, hb⟩ : ∃ b, W1.heap.size = b := ⟨_, rfl⟩
  have HA := Lib.hid ha
  simp only [ha, hb] at KA KB HAB HR lt1 ⊢
  have hne : a ≠ b := by have := HAB.out; omega
  have hne' : b ≠ a := fun e => hne e.symm
  obtain ⟨p0, p1, p2, p3, p4, p5⟩ := KA.out.six
  obtain ⟨q0, q1, q2, q3, q4, q5⟩ := KB.out.six
  have i0 := KA.out.ice 0
  have i1 := KA.out.ice 1
  have i2 := KA.out.ice 2
  have i3 := KA.out.ice 3
  have i4 := KA.out.ice 4
  have i5 := KA.out.ice 5
  have j1 := KB.out.ice 1
  clear ka kb g3 hrd2 hg2 hg1 hrd1 ka0 hab NM TX ha hb
  go_wp2_with fail
  refine bodyPost_ret (res_value rfl _ _ a _ _ _ _ _ _ _ rfl ((KA.out.aside (p := ⟨b, 1, none⟩) hne _).fill)) rfl ⟨rfl, ?_, ?_⟩
  · have e : 1 + 4 + n = 5 + n := by omega
    rw [e] at RD2
    have la : r < a := by have := HR.out; omega
    exact ((((((RD2.out.aside (p := ⟨b, 1, none⟩) lt1 _).aside (p := ⟨a, 0, none⟩) la _).aside (p := ⟨a, 1, none⟩) la _).aside (p := ⟨a, 2, none⟩) la _).aside (p := ⟨a, 3, none⟩) la _).aside (p := ⟨a, 4, none⟩) la _).aside (p := ⟨a, 5, none⟩) la _
  · have la : W.heap.size ≤ a := Nat.le_of_eq HA.out
    have lb : W.heap.size ≤ b := by have h1 := HA.out; have h2 := HAB.out; omega
    exact grown_new (grown_new (grown_new (grown_new (grown_new (grown_new (grown_new G3.out (p := ⟨b, 1, none⟩) lb _) (p := ⟨a, 0, none⟩) la _) (p := ⟨a, 1, none⟩) la _) (p := ⟨a, 2, none⟩) la _) (p := ⟨a, 3, none⟩) la _) (p := ⟨a, 4, none⟩) la _) (p := ⟨a, 5, none⟩) la _
def vnone : Value := .agg #[.int .i64 0, .string ⟨#[]⟩, .slice none 0 0, .slice none 0 0, .slice none 0 0, .slice none 0 0]
set_option maxRecDepth 20000 in
set_option maxHeartbeats 2000000 in
theorem value_none (W : World) (r B : Nat) (f : Bool) (h : Rd W r B [] f) :
    Calls Try.prog 20 #[.pointer (some ⟨r, 0, none⟩)] W fun e W' => e = .returned vnone ∧ Rd W' r B [] true ∧ W.grownBy W' (some r) := by
  have NM := Lib.hid (fun o => num_no (W.alloc o) r B 1 [] f (h.alloc o) (by decide))
  have CN := Lib.hid (fun W' (k : Rd W' r B [] true) => cnt_no W' r B 1000 [] true k (by decide))
  have HR := Lib.hid h.lt
  unfold vnone
  clear h
  go_enter Try.func20, Try.ntmps20
  go_wp2_with (go_at_call 36; refine (NM.out _).mono ?_; rintro e W1 ⟨rfl, hrd1, hg1⟩)
  have lt1 := hrd1.lt
  have ka0 := (Blk.new W #[.int .i64 0, .string ⟨#[]⟩, .slice none 0 0, .slice none 0 0, .slice none 0 0, .slice none 0 0] 29).grown hg1 (by have := HR.out; omega)
  have hab : W.heap.size < W1.heap.size := ka0.lt
  refine (CN.out _ (hrd1.alloc _)).mono ?_
  rintro e W2 ⟨rfl, hrd2, hg2⟩
  have ka := (ka0.below ((Below.refl _ W1).alloc (Nat.le_refl _) (.cells #[.int .i64 0, .string ⟨#[]⟩, .slice none 0 0, .slice none 0 0, .slice none 0 0, .slice none 0 0] 29))).grown hg2 (by have := HR.out; omega)
  have kb := (Blk.new W1 #[.int .i64 0, .string ⟨#[]⟩, .slice none 0 0, .slice none 0 0, .slice none 0 0, .slice none 0 0] 29).grown hg2 (by omega)
  have g3 : W.grownBy W2 (some r) := ((World.grownBy_alloc W _ _).trans hg1).trans ((World.grownBy_alloc W1 _ _).trans hg2)
  have KA := Lib.hid ka
  have KB := Lib.hid kb
  have G3 := Lib.hid g3
  have RD2 := Lib.hid hrd2
  have HAB := Lib.hid hab
  obtain ⟨a, ha⟩ : ∃ a, W.heap.size = a := ⟨_, rfl⟩
  obtain ⟨b, hb⟩ : ∃ b, W1.heap.size = b := ⟨_, rfl⟩
  have HA := Lib.hid ha
  simp only [ha, hb] at KA KB HAB HR lt1 ⊢
  have hne : a ≠ b := by have := HAB.out; omega
  have hne' : b ≠ a := fun e => hne e.symm
  obtain ⟨p0, p1, p2, p3, p4, p5⟩ := KA.out.six
  obtain ⟨q0, q1, q2, q3, q4, q5⟩ := KB.out.six
  have i0 := KA.out.ice 0
  have i1 := KA.out.ice 1
  have i2 := KA.out.ice 2
  have i3 := KA.out.ice 3
  have i4 := KA.out.ice 4
  have i5 := KA.out.ice 5
  clear ka kb g3 hrd2 hg2 hg1 hrd1 ka0 hab NM CN ha hb
  go_wp2_with fail
  refine wp_loop_rounds 1 ?_
  rw [rounds_succ]
  go_wp2_with fail
  refine bodyPost_ret (res_value rfl _ _ a _ _ _ _ _ _ _ rfl KA.out.fill) rfl ⟨rfl, ?_, ?_⟩
  · have la : r < a := by have := HR.out; omega
    exact (((((RD2.out.aside (p := ⟨a, 0, none⟩) la _).aside (p := ⟨a, 1, none⟩) la _).aside (p := ⟨a, 2, none⟩) la _).aside (p := ⟨a, 3, none⟩) la _).aside (p := ⟨a, 4, none⟩) la _).aside (p := ⟨a, 5, none⟩) la _
  · have la : W.heap.size ≤ a := Nat.le_of_eq HA.out
    exact grown_new (grown_new (grown_new (grown_new (grown_new (grown_new G3.out (p := ⟨a, 0, none⟩) la _) (p := ⟨a, 1, none⟩) la _) (p := ⟨a, 2, none⟩) la _) (p := ⟨a, 3, none⟩) la _) (p := ⟨a, 4, none⟩) la _) (p := ⟨a, 5, none⟩) la _
theorem rd_new (w : World) (o : Obj) (A : Option Addr) (l : List UInt8) (n c : Nat) (hn : l.length = n) (hA : A = none → c = 0) (hc : n ≤ c) (hs : Bs w w.heap.size A l) :
    Rd ((w.alloc o).alloc (.cells #[.slice A n c, .bool false] 58)) (w.heap.size + 1) w.heap.size l false := by
  subst hn
  refine ⟨A, c, ?_, hA, hc, ?_, by omega⟩
  · have := Blk.new (w.alloc o) #[.slice A l.length c, .bool false] 58
    rw [World.size_alloc] at this
    exact this
  · exact hs.below (((Below.refl _ w).alloc (Nat.le_refl _) _).alloc (by simp) _)
theorem Rd.cells {W : World} {r B n : Nat} {l : List UInt8} {f : Bool} (h : Rd W r B l f) (hn : l.length = n) : ∃ A c, W.cell? ⟨r, 0, none⟩ = some (.slice A n c) ∧ W.cell? ⟨r, 1, none⟩ = some (.bool f) ∧ r < W.heap.size := by
  subst hn
  obtain ⟨A, c, hb, _⟩ := h
  exact ⟨A, c, hb.two.1, hb.two.2.1, hb.lt⟩
/-- The worlds of Get behind the reading: what was stays, the box of the result is the call's own. -/
theorem get_mid {w W1 : World} {cs : Array Value} (o : Array Value) (g : ((w.alloc (.cells o 29)).alloc (.cells cs 58)).grownBy W1 (some (w.heap.size + 1))) :
    Blk W1 w.heap.size o 29 ∧ Below w.heap.size w W1 ∧ w.heap.size + 1 < W1.heap.size := by
  have a1 : Blk ((w.alloc (.cells o 29)).alloc (.cells cs 58)) w.heap.size o 29 := (Blk.new w o _).below ((Below.refl _ _).alloc (Nat.le_refl _) _)
  have b1 : Below w.heap.size w ((w.alloc (.cells o 29)).alloc (.cells cs 58)) := ((Below.refl _ w).alloc (Nat.le_refl _) _).alloc (by simp) _
  exact ⟨a1.grown g (by omega), b1.grown g b1.size (fun k e => by cases e; omega), by have := g.size; simp at this; omega⟩
set_option maxRecDepth 20000 in
set_option maxHeartbeats 600000 in
theorem get_none (w : World) :
    Calls Try.prog 10 #[.slice none 0 0] w fun e w' => e = .returned (.tuple #[vnone, .int .i64 26]) ∧ Below w.heap.size w w' := by
  have RD := Lib.hid (fun o => rd_new w o none [] 0 0 rfl (fun _ => rfl) (Nat.le_refl _) Bs.empty)
  have VN := Lib.hid (fun W (k : Rd W (w.heap.size + 1) w.heap.size [] false) => value_none W (w.heap.size + 1) w.heap.size false k)
  unfold vnone at VN ⊢
  go_enter Try.func10, Try.ntmps10
  go_wp2_with (go_at_call 20; refine (VN.out _ (RD.out _)).mono ?_; rintro e W1 ⟨rfl, hrd1, hg1⟩; obtain ⟨A1, c1, d0, d1, lt1⟩ := hrd1.cells (n := 0) rfl; obtain ⟨ka, hb1, -⟩ := get_mid _ hg1; obtain ⟨p0, p1, p2, p3, p4, p5⟩ := ka.six; have i0 := ka.ice 0; have i1 := ka.ice 1; have i2 := ka.ice 2; have i3 := ka.ice 3; have i4 := ka.ice 4; have i5 := ka.ice 5; have la := ka.lt; have KA := Lib.hid ka; have HB1 := Lib.hid hb1; clear ka hb1 hg1 hrd1)
  have k2 := (KA.out.fill (v0 := .int .i64 0) (v1 := .string ⟨#[]⟩) (v2 := .slice none 0 0) (v3 := .slice none 0 0) (v4 := .slice none 0 0) (v5 := .slice none 0 0)).below ((Below.refl _ _).alloc (Nat.le_refl _) (.cells #[.int .i64 0, .string ⟨#[]⟩, .slice none 0 0, .slice none 0 0, .slice none 0 0, .slice none 0 0] 29))
  have b2 := (((((HB1.out.setCell (p := ⟨w.heap.size, 0, none⟩) (Nat.le_refl _) (.int .i64 0)).setCell (p := ⟨w.heap.size, 1, none⟩) (Nat.le_refl _) (.string ⟨#[]⟩)).setCell (p := ⟨w.heap.size, 2, none⟩) (Nat.le_refl _) (.slice none 0 0)).setCell (p := ⟨w.heap.size, 3, none⟩) (Nat.le_refl _) (.slice none 0 0)).setCell (p := ⟨w.heap.size, 4, none⟩) (Nat.le_refl _) (.slice none 0 0)).setCell (p := ⟨w.heap.size, 5, none⟩) (Nat.le_refl _) (.slice none 0 0)
  have b3 := b2.alloc b2.size (.cells #[.int .i64 0, .string ⟨#[]⟩, .slice none 0 0, .slice none 0 0, .slice none 0 0, .slice none 0 0] 29)
  refine bodyPost_ret (v := .tuple #[.agg #[.int .i64 0, .string ⟨#[]⟩, .slice none 0 0, .slice none 0 0, .slice none 0 0, .slice none 0 0], .int .i64 26]) ?_ rfl ⟨rfl, b3⟩
  exact res_value_tmp (fn := Try.f10) (p := 2) (u := 3) rfl _ _ w.heap.size _ _ _ _ _ _ _ (by rfl) k2
theorem get_late {w W1 W3 : World} {o cs : Array Value} (k : Blk W1 w.heap.size o 29) (b : Below (W1.alloc (.cells cs 29)).heap.size (W1.alloc (.cells cs 29)) W3) :
    Blk W3 w.heap.size o 29 ∧ Blk W3 W1.heap.size cs 29 ∧ Below W1.heap.size W1 W3 :=
  have al : Below W1.heap.size W1 (W1.alloc (.cells cs 29)) := (Below.refl _ _).alloc (Nat.le_refl _) _
  ⟨(k.below al).below b, (Blk.new W1 cs _).below b, below_then al b⟩
set_option maxRecDepth 20000 in
set_option maxHeartbeats 1000000 in
/-- Get, at the bytes of a string. -/
theorem get_text (w : World) (A : Option Addr) (c m n : Nat) (l : List UInt8) (hlm : l.length = m) (hA : A = none → c = 0) (hc : m ≤ c) (hs : Bs w w.heap.size A l) (h1 : l.take 1 = [1]) (hn : bnum ((l.drop 1).take 4) = n) (hm : n ≤ 4096) (hk : 5 + n = l.length) :
    Calls Try.prog 10 #[.slice A m c] w fun e w' => e = .returned (.tuple #[vagg ⟨(l.drop 5).toArray⟩, .int .i64 0]) ∧ Below w.heap.size w w' := by
  have RD := Lib.hid (fun o => rd_new w o A l m c hlm hA hc hs)
  have VN := Lib.hid (fun W (k : Rd W (w.heap.size + 1) w.heap.size l false) => value_text W (w.heap.size + 1) w.heap.size n l false k h1 hn hm (by omega) (by omega))
  have e1 : l.drop (5 + n) = [] := by rw [hk]; exact List.drop_length
  have e2 : (l.drop 5).take n = l.drop 5 := List.take_of_length_le (by rw [List.length_drop]; omega)
  simp only [e1, e2] at VN
  obtain ⟨s, hse⟩ : ∃ s : ByteArray, (⟨(l.drop 5).toArray⟩ : ByteArray) = s := ⟨_, rfl⟩
  have hsz : s.size ≤ 4096 := by rw [← hse]; show (l.drop 5).toArray.size ≤ 4096; simp; omega
  have MY := fun W => may_any (fun _ => true) W W.heap.size (vagg s) (vtext s) (vr_text W _ s) (ok_text _ s (by omega)) (Nat.le_refl _)
  rw [may_text, decide_eq_true hsz] at MY
  simp only [hse] at VN ⊢
  unfold vagg at VN MY ⊢
  clear hlm hA hc hs h1 hn hm hk e1 e2 hse hsz
  go_enter Try.func10, Try.ntmps10
  go_wp2_with (first
    | (go_at_call 20; refine (VN.out _ (RD.out _)).mono ?_; rintro e W1 ⟨rfl, hrd1, hg1⟩; obtain ⟨A1, c1, d0, d1, lt1⟩ := hrd1.cells (n := 0) rfl; obtain ⟨ka, hb1, -⟩ := get_mid _ hg1; have KA := Lib.hid ka; have HB1 := Lib.hid hb1; clear ka hb1 hg1 hrd1)
    | (go_at_call 6; refine (MY _).mono ?_; rintro e W3 ⟨rfl, hb3⟩; obtain ⟨ka, kb, hb⟩ := get_late KA.out hb3; obtain ⟨p0, p1, p2, p3, p4, p5⟩ := ka.six; obtain ⟨q0, q1, q2, q3, q4, q5⟩ := kb.six; have i0 := ka.ice 0; have i1 := ka.ice 1; have i2 := ka.ice 2; have i3 := ka.ice 3; have i4 := ka.ice 4; have i5 := ka.ice 5; have KA3 := Lib.hid ka; have HB3 := Lib.hid hb; clear ka kb hb hb3))
  have b1 := HB1.out.trans (HB3.out.mono HB1.out.size)
  have k2 := KA3.out.fill (v0 := .int .i64 1) (v1 := .string s) (v2 := .slice none 0 0) (v3 := .slice none 0 0) (v4 := .slice none 0 0) (v5 := .slice none 0 0)
  have b2 := (((((b1.setCell (p := ⟨w.heap.size, 0, none⟩) (Nat.le_refl _) (.int .i64 1)).setCell (p := ⟨w.heap.size, 1, none⟩) (Nat.le_refl _) (.string s)).setCell (p := ⟨w.heap.size, 2, none⟩) (Nat.le_refl _) (.slice none 0 0)).setCell (p := ⟨w.heap.size, 3, none⟩) (Nat.le_refl _) (.slice none 0 0)).setCell (p := ⟨w.heap.size, 4, none⟩) (Nat.le_refl _) (.slice none 0 0)).setCell (p := ⟨w.heap.size, 5, none⟩) (Nat.le_refl _) (.slice none 0 0)
  refine bodyPost_ret (v := .tuple #[.agg #[.int .i64 1, .string s, .slice none 0 0, .slice none 0 0, .slice none 0 0, .slice none 0 0], .int .i64 0]) ?_ rfl ⟨rfl, b2⟩
  exact res_value_tmp (fn := Try.f10) (p := 2) (u := 3) rfl _ _ w.heap.size _ _ _ _ _ _ _ (by rfl) k2
end Go.Proofs.Ytgokjdlemfaagaa
