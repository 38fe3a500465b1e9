/- Texts of one proof behind one another: TcIa, TcI. -/
import Derived.Test.YtbcjpnmakcmndaaGreatDoorKw
import Derived.Test.YtbcjpnmakcmndaaGreatDoorLaid
import Derived.Deep.RegionHeld3
/- Package tree: Bare (printed by genti.py). -/
namespace Go.Proofs.YtbcjpnmakcmndaaGreatDoor
open Go.RowKit PrM
set_option linter.unusedVariables false
set_option linter.unusedSimpArgs false
theorem clone_any (w : World) (s : ByteArray) (hs : s.size ≤ 100000) : Calls Tryz.prog 65 #[.string s] w fun e w' => e = .returned (.string s) ∧ Below w.heap.size w w' := by
 have h := Lib.hid (fun w => Tryz.stringslite_Clone s w (by omega))
 clear hs
 go_enter Tryz.func65, Tryz.ntmps65
 go_wp2_with (go_at_call 116; refine (h.out _).mono ?_; rintro e w' ⟨rfl, b⟩; have B := Lib.hid b; clear b)
 go_ret
 exact ⟨rfl, B.out⟩
/-- What a list's copy answers. -/
def ET (l : List ByteArray) (w : World) (e : Ending) (w' : World) : Prop := ∃ v, e = .returned v ∧ Strs w' (Lo w) v l ∧ Below w.heap.size w w'
set_option maxRecDepth 20000 in
set_option maxHeartbeats 4000000 in
theorem each_t (w : World) (P : Nat → Prop) (l : List ByteArray) (v : Value) (h : Strs w P v l) (hb : l.length ≤ 100000) (hs : ∀ p ∈ l, p.size ≤ 100000) :
  Calls Tryz.prog 64 #[v, .func (.func 65) #[] #[]] w (ET l w) := by
 obtain ⟨A, c, rfl⟩ := strs_slice h
 obtain ⟨n, hn⟩ : ∃ n, l.length = n := ⟨_, rfl⟩
 rw [hn] at h hb ⊢
 have HX := Lib.hid h
 have HN := Lib.hid hn
 have HS := Lib.hid hs
 have n0 : (0 : Int) ≤ (n : Int) := by omega
 have n1 : (n : Int) ≤ 100000 := by omega
 have HHB := Lib.hid hb
 cases A with
 | none =>
  obtain ⟨A', c', e, hA, hc, -⟩ := h
  injection e with e1 e2 e3
  obtain rfl : c = 0 := by rw [e3]; exact hA e1.symm
  have hl0 : l = [] := List.eq_nil_of_length_eq_zero (by omega)
  obtain rfl : n = 0 := by rw [← hn, hl0]; rfl
  have nq : ∀ W, (binOp .eql 30 (.slice none 0 0) (.slice none 0 0)).run Tryz.prog W = .ok (.bool true) W := fun _ => rfl
  have HL := Lib.hid hl0
  clear e1 e2 e3 hA hc hb hs hn hl0
  go_enter Tryz.func64, Tryz.ntmps64
  go_wp2_with fail
  go_ret
  exact ⟨_, rfl, by rw [HL.out]; exact strsN _ _, Below.refl _ _⟩
 | some p =>
  have nq : ∀ W, (binOp .eql 30 (.slice (some p) n c) (.slice none 0 0)).run Tryz.prog W = .ok (.bool false) W := fun _ => rfl
  clear h hs hn
  go_enter Tryz.func64, Tryz.ntmps64
  obtain ⟨ti, hti, hz, k1, k2⟩ := info_parts infoS1
  go_wp2_with (at_make; refine wpList_make_z rfl _ _ 30 rfl 9 ti _ 1 Tryz.underlying30 hti hz k1 n rfl rfl (by rw [k2]; omega) hb ?_; intro w1 xs hx own b1 hw; have HXS := Lib.hid hx; have OW := Lib.hid own; have B1 := Lib.hid b1; have HW := Lib.hid hw; clear hx own b1 hw hb hti hz k1 k2 ti)
  go_loopw [6, 7, 15] (fun u6 u7 u15 wr => ∃ (i : Nat) (p6 p7 : Value) (zs : List Value), u6 = p6 ∧ u7 = p7 ∧ u15 = .int .i64 (i : Int) ∧ i ≤ n ∧ zs.length = n - i ∧ wr.ownsRow w.heap.size 9 1 (.slice (some ⟨w.heap.size, 0, none⟩) n n) n ((l.take i).map Value.string ++ zs) ∧ Below w.heap.size w wr ∧ w.heap.size < wr.heap.size) (fun _ _ u15 _ => (n : Int).toNat - (intOf u15).toNat)
  case atStart => exact ⟨0, undef, undef, xs, rfl, rfl, rfl, Nat.zero_le _, by rw [HXS.out]; omega, by rw [List.take_zero]; exact OW.out, B1.out, HW.out⟩
  case round =>
   obtain ⟨i, p6, p7, zs, rfl, rfl, rfl, hi, hz, own, hbl, hsz⟩ := hrel
   clear OW B1 HW HXS
   have HB := Lib.hid hbl
   have OW := Lib.hid own
   have HSZ := Lib.hid hsz
   have i0 : (0 : Int) ≤ (i : Int) := by omega
   have wi : wrap64 ((i : Int) + 1) = (i : Int) + 1 := by unfold wrap64; omega
   clear hbl own hsz
   by_cases hlt : i < n
   ·have hl : i < l.length := by rw [HN.out]; exact hlt
    obtain ⟨p', ep, c0⟩ := Strs.at (Strs.bel HB.out HX.out) hl
    obtain rfl : p = p' := Option.some.inj ep
    clear ep
    obtain ⟨z0, rest, rfl⟩ := len1 (zs := zs) (by rw [hz]; omega)
    have hr : rest.length = n - (i + 1) := by simp at hz; omega
    have HR := Lib.hid hr
    have HKL := Lib.hid (show ((l.take i).map Value.string).length = i by rw [List.length_map, List.length_take]; omega)
    obtain ⟨x, hx⟩ : ∃ x, l[i] = x := ⟨_, rfl⟩
    rw [hx] at c0
    have CL := Lib.hid (fun w1 => clone_any w1 x (by rw [← hx]; exact HS.out _ (List.getElem_mem hl)))
    have HTK := Lib.hid (show l.take (i + 1) = l.take i ++ [x] by rw [List.take_add_one, List.getElem?_eq_getElem hl, hx]; rfl)
    have hl1 : (i : Int) < (n : Int) := by omega
    have HLT := Lib.hid hlt
    clear hi hlt hz hr hx hl
    go_wp2_with (go_at_call 65; refine (CL.out _).mono ?_; rintro e w3 ⟨rfl, b3⟩; have HB3 := Lib.hid (HB.out.trans (b3.mono HB.out.size)); have OW3 := Lib.hid (ownsRow_only OW.out (Only.of_below (F := fun _ => False) b3) (fun _ f => f.elim)); have HS3 := Lib.hid (Nat.lt_of_lt_of_le HSZ.out b3.size); obtain ⟨g0, h0⟩ := own_cell1R OW3.out HKL.out; have PU := Lib.hid (own_put1R OW3.out HKL.out (.string x)); clear b3)
    have HBF := Lib.hid (HB3.out.trans (PU.out.2.out.below (B := w.heap.size) (fun n e => by omega) HB3.out.size))
    have HSF := Lib.hid (Nat.lt_of_lt_of_le HS3.out PU.out.2.out.size)
    refine ⟨⟨i + 1, _, _, rest, rfl, rfl, rfl, (by have := HLT.out; omega), HR.out, ?_, HBF.out, HSF.out⟩, ?_⟩
    ·have k := PU.out.1.out
     rw [HTK.out, List.map_append, List.append_assoc]
     exact k
    ·have := HLT.out
     simp only [intOf]
     omega
   ·have hl1 : ¬ (i : Int) < (n : Int) := by omega
    obtain rfl : i = n := by omega
    obtain rfl : zs = [] := List.eq_nil_of_length_eq_zero (by rw [hz]; simp)
    clear hlt hi hz
    go_wp2_with fail
    go_ret
    refine ⟨_, rfl, ?_, HB.out⟩
    have o := OW.out
    rw [List.append_nil, List.take_of_length_le (Nat.le_of_eq HN.out)] at o
    have nn := HN.out
    subst nn
    exact strs_own o (fun q e => (o.lt q e).1)
end Go.Proofs.YtbcjpnmakcmndaaGreatDoor
/- Package tree: Bare (printed by genti.py). -/
namespace Go.Proofs.YtbcjpnmakcmndaaGreatDoor
open Go.RowKit PrM
set_option linter.unusedVariables false
set_option linter.unusedSimpArgs false
theorem only_set7 (W : World) (r : Nat) (u0 u1 u2 u3 u4 u5 u6 : Value) : Only (fun k => k = r) W (((((((W.setCell ⟨r, 0, none⟩ u0).setCell ⟨r, 1, none⟩ u1).setCell ⟨r, 2, none⟩ u2).setCell ⟨r, 3, none⟩ u3).setCell ⟨r, 4, none⟩ u4).setCell ⟨r, 5, none⟩ u5).setCell ⟨r, 6, none⟩ u6) := ((((((((Only.refl (fun k => k = r) W).setCell (p := ⟨r, 0, none⟩) (.inl rfl) u0).setCell (p := ⟨r, 1, none⟩) (.inl rfl) u1).setCell (p := ⟨r, 2, none⟩) (.inl rfl) u2).setCell (p := ⟨r, 3, none⟩) (.inl rfl) u3).setCell (p := ⟨r, 4, none⟩) (.inl rfl) u4).setCell (p := ⟨r, 5, none⟩) (.inl rfl) u5).setCell (p := ⟨r, 6, none⟩) (.inl rfl) u6)
theorem only_set5 (W : World) (r : Nat) (u0 u1 u2 u3 u4 : Value) : Only (fun k => k = r) W (((((W.setCell ⟨r, 0, none⟩ u0).setCell ⟨r, 1, none⟩ u1).setCell ⟨r, 2, none⟩ u2).setCell ⟨r, 3, none⟩ u3).setCell ⟨r, 4, none⟩ u4) := ((((((Only.refl (fun k => k = r) W).setCell (p := ⟨r, 0, none⟩) (.inl rfl) u0).setCell (p := ⟨r, 1, none⟩) (.inl rfl) u1).setCell (p := ⟨r, 2, none⟩) (.inl rfl) u2).setCell (p := ⟨r, 3, none⟩) (.inl rfl) u3).setCell (p := ⟨r, 4, none⟩) (.inl rfl) u4)
theorem only_set2 (W : World) (r : Nat) (u0 u1 : Value) : Only (fun k => k = r) W ((W.setCell ⟨r, 0, none⟩ u0).setCell ⟨r, 1, none⟩ u1) := (((Only.refl (fun k => k = r) W).setCell (p := ⟨r, 0, none⟩) (.inl rfl) u0).setCell (p := ⟨r, 1, none⟩) (.inl rfl) u1)
theorem cell_next (W : World) (r j i : Nat) (u : Value) : (W.setCell ⟨r + 1, j, none⟩ u).cell? ⟨r, i, none⟩ = W.cell? ⟨r, i, none⟩ :=
 World.cell?_of_block (show (W.setCell ⟨r + 1, j, none⟩ u).heap[r]? = W.heap[r]? by
  show (W.heap.modify (r + 1) _)[r]? = _
  rw [Array.getElem?_modify, if_neg (by omega)])
theorem keep_box {W W' : World} {r b j : Nat} {u : Value} (o : Only (fun k => k = r) W W') (hr : r < W.heap.size) (hb : b < r) (h : W.cell? ⟨b, j, none⟩ = some u) : W'.cell? ⟨b, j, none⟩ = some u := by
 rw [World.cell?_of_block (o.block b (Nat.lt_trans hb hr) (fun e => Nat.ne_of_lt hb e))]
 exact h
theorem keep_below {w W W' : World} (h : Below w.heap.size w W) (o : Only (fun k => k = w.heap.size + 1) W W') : Below w.heap.size w W' :=
 h.trans (o.below (B := w.heap.size) (fun n e => by subst e; exact Nat.le_succ _) h.size)
theorem blk_cell {W : World} {b : Nat} {cs : Array Value} {t : TypeId} (h : Blk W b cs t) (j : Nat) (u : Value) : Blk (W.setCell ⟨b, j, none⟩ u) b (cs.setIfInBounds j u) t := by
 have h : W.heap[b]? = _ := h
 show (W.setCell ⟨b, j, none⟩ u).heap[b]? = _
 simp [World.setCell, Array.getElem?_modify, h]
theorem blk_set7 {W : World} {r : Nat} {t : TypeId} {v0 v1 v2 v3 v4 v5 v6 : Value} (h : Blk W r #[v0, v1, v2, v3, v4, v5, v6] t) (u0 u1 u2 u3 u4 u5 u6 : Value) : Blk (((((((W.setCell ⟨r, 0, none⟩ u0).setCell ⟨r, 1, none⟩ u1).setCell ⟨r, 2, none⟩ u2).setCell ⟨r, 3, none⟩ u3).setCell ⟨r, 4, none⟩ u4).setCell ⟨r, 5, none⟩ u5).setCell ⟨r, 6, none⟩ u6) r #[u0, u1, u2, u3, u4, u5, u6] t := by
 have a0 : Blk (W.setCell ⟨r, 0, none⟩ u0) r #[u0, v1, v2, v3, v4, v5, v6] t := blk_cell h 0 u0
 have a1 : Blk ((W.setCell ⟨r, 0, none⟩ u0).setCell ⟨r, 1, none⟩ u1) r #[u0, u1, v2, v3, v4, v5, v6] t := blk_cell a0 1 u1
 have a2 : Blk (((W.setCell ⟨r, 0, none⟩ u0).setCell ⟨r, 1, none⟩ u1).setCell ⟨r, 2, none⟩ u2) r #[u0, u1, u2, v3, v4, v5, v6] t := blk_cell a1 2 u2
 have a3 : Blk ((((W.setCell ⟨r, 0, none⟩ u0).setCell ⟨r, 1, none⟩ u1).setCell ⟨r, 2, none⟩ u2).setCell ⟨r, 3, none⟩ u3) r #[u0, u1, u2, u3, v4, v5, v6] t := blk_cell a2 3 u3
 have a4 : Blk (((((W.setCell ⟨r, 0, none⟩ u0).setCell ⟨r, 1, none⟩ u1).setCell ⟨r, 2, none⟩ u2).setCell ⟨r, 3, none⟩ u3).setCell ⟨r, 4, none⟩ u4) r #[u0, u1, u2, u3, u4, v5, v6] t := blk_cell a3 4 u4
 have a5 : Blk ((((((W.setCell ⟨r, 0, none⟩ u0).setCell ⟨r, 1, none⟩ u1).setCell ⟨r, 2, none⟩ u2).setCell ⟨r, 3, none⟩ u3).setCell ⟨r, 4, none⟩ u4).setCell ⟨r, 5, none⟩ u5) r #[u0, u1, u2, u3, u4, u5, v6] t := blk_cell a4 5 u5
 have a6 : Blk (((((((W.setCell ⟨r, 0, none⟩ u0).setCell ⟨r, 1, none⟩ u1).setCell ⟨r, 2, none⟩ u2).setCell ⟨r, 3, none⟩ u3).setCell ⟨r, 4, none⟩ u4).setCell ⟨r, 5, none⟩ u5).setCell ⟨r, 6, none⟩ u6) r #[u0, u1, u2, u3, u4, u5, u6] t := blk_cell a5 6 u6
 exact a6
theorem blk_set5 {W : World} {r : Nat} {t : TypeId} {v0 v1 v2 v3 v4 : Value} (h : Blk W r #[v0, v1, v2, v3, v4] t) (u0 u1 u2 u3 u4 : Value) : Blk (((((W.setCell ⟨r, 0, none⟩ u0).setCell ⟨r, 1, none⟩ u1).setCell ⟨r, 2, none⟩ u2).setCell ⟨r, 3, none⟩ u3).setCell ⟨r, 4, none⟩ u4) r #[u0, u1, u2, u3, u4] t := by
 have a0 : Blk (W.setCell ⟨r, 0, none⟩ u0) r #[u0, v1, v2, v3, v4] t := blk_cell h 0 u0
 have a1 : Blk ((W.setCell ⟨r, 0, none⟩ u0).setCell ⟨r, 1, none⟩ u1) r #[u0, u1, v2, v3, v4] t := blk_cell a0 1 u1
 have a2 : Blk (((W.setCell ⟨r, 0, none⟩ u0).setCell ⟨r, 1, none⟩ u1).setCell ⟨r, 2, none⟩ u2) r #[u0, u1, u2, v3, v4] t := blk_cell a1 2 u2
 have a3 : Blk ((((W.setCell ⟨r, 0, none⟩ u0).setCell ⟨r, 1, none⟩ u1).setCell ⟨r, 2, none⟩ u2).setCell ⟨r, 3, none⟩ u3) r #[u0, u1, u2, u3, v4] t := blk_cell a2 3 u3
 have a4 : Blk (((((W.setCell ⟨r, 0, none⟩ u0).setCell ⟨r, 1, none⟩ u1).setCell ⟨r, 2, none⟩ u2).setCell ⟨r, 3, none⟩ u3).setCell ⟨r, 4, none⟩ u4) r #[u0, u1, u2, u3, u4] t := blk_cell a3 4 u4
 exact a4
theorem blk_set2 {W : World} {r : Nat} {t : TypeId} {v0 v1 : Value} (h : Blk W r #[v0, v1] t) (u0 u1 : Value) : Blk ((W.setCell ⟨r, 0, none⟩ u0).setCell ⟨r, 1, none⟩ u1) r #[u0, u1] t := by
 have a0 : Blk (W.setCell ⟨r, 0, none⟩ u0) r #[u0, v1] t := blk_cell h 0 u0
 have a1 : Blk ((W.setCell ⟨r, 0, none⟩ u0).setCell ⟨r, 1, none⟩ u1) r #[u0, u1] t := blk_cell a0 1 u1
 exact a1
theorem res5 {fn : Func} {p : Tmp} (h : fn.results = #[.cell p 34]) (tmps : Array Value) (w : World) (b : Nat) (v0 v1 v2 v3 v4 : Value) (hp : tmps.getD p undef = .pointer (some ⟨b, 0, none⟩)) (hb : Blk w b #[v0, v1, v2, v3, v4] 34) :
  (results fn tmps).run Tryz.prog w = .ok (.agg #[v0, v1, v2, v3, v4]) w := results_cell_row h tmps w b 34 #[v0, v1, v2, v3, v4] (0, 0) _ hp hb Tryz.underlying34 rfl (by kernel_rfl)
theorem slEnd {w0 w1 w2 w3 w : World} {r : Nat} {x : X} {z : Nat} {v : Value} (h : Sl x.len (Rd w1 (Lo w0) x).row z v) (hr : r < w0.heap.size) (hw : w.heap.size ≤ w0.heap.size) (b : Below w1.heap.size w1 w2) (o : Only (fun k => k = r) w2 w3) : Sl x.len (Rd w3 (Lo w) x).row z v :=
 (Sl.bel b h).imp (Rd.move (Moves.of_only o (fun k hk _ e => by unfold Lo at hk; omega) (fun k hk _ => by unfold Lo at *; omega)) x).2.1
theorem stEnd {w0 w1 w2 w3 w : World} {r : Nat} {l : List ByteArray} {v : Value} (h : Strs w1 (Lo w0) v l) (hr : r < w0.heap.size) (hw : w.heap.size ≤ w0.heap.size) (b : Below w1.heap.size w1 w2) (o : Only (fun k => k = r) w2 w3) : Strs w3 (Lo w) v l :=
 (Strs.bel b h).move (Moves.of_only o (fun k hk _ e => by unfold Lo at hk; omega) (fun k hk _ => by unfold Lo at *; omega))
def BareS (x : X) : Prop := x.fit 100000 → ∀ (w : World) (P : Nat → Prop) (cs : Array Value), (Rd w P x).cells cs → match x with
 | .e .. => Calls Tryz.prog 67 #[.agg cs] w (EE x w)
 | .f .. => Calls Tryz.prog 118 #[.agg cs] w (EE x w)
 | .s .. => Calls Tryz.prog 30 #[.agg cs] w (EE x w)
 | .blk _ => ∀ v, cs = #[v] → Calls Tryz.prog 13 #[v] w (EB x w)
 | _ => True
theorem bar_e {l : X} (hl : l.fit 100000) (H : ∀ y ∈ l.elems, BareS y) {w : World} {P : Nat → Prop} {A : Option Addr} {c : Nat} (h : Sl l.len (Rd w P l).row 7 (.slice A l.len c)) : Calls Tryz.prog 66 #[.slice A l.len c, .func (.func 67) #[] #[]] w (ES l 7 w) :=
 each_e w P l A l.len c h (X.fit_len l hl) fun y hy w1 v0 v1 v2 v3 v4 v5 v6 rd => by
  have k := H y hy (fit_elems l hl y hy) w1 P _ rd
  obtain ⟨_, _, _, _, _, _, _, _, _, rfl, -⟩ := Rd.is_e rd rfl
  exact k
theorem bar_f {l : X} (hl : l.fit 100000) (H : ∀ y ∈ l.elems, BareS y) {w : World} {P : Nat → Prop} {A : Option Addr} {c : Nat} (h : Sl l.len (Rd w P l).row 2 (.slice A l.len c)) : Calls Tryz.prog 117 #[.slice A l.len c, .func (.func 118) #[] #[]] w (ES l 2 w) :=
 each_f w P l A l.len c h (X.fit_len l hl) fun y hy w1 v0 v1 rd => by
  have k := H y hy (fit_elems l hl y hy) w1 P _ rd
  obtain ⟨_, _, _, _, rfl, -⟩ := Rd.is_f rd rfl
  exact k
theorem bar_s {l : X} (hl : l.fit 100000) (H : ∀ y ∈ l.elems, BareS y) {w : World} {P : Nat → Prop} {A : Option Addr} {c : Nat} (h : Sl l.len (Rd w P l).row 5 (.slice A l.len c)) : Calls Tryz.prog 29 #[.slice A l.len c, .func (.func 30) #[] #[]] w (ES l 5 w) :=
 each_s w P l A l.len c h (X.fit_len l hl) fun y hy w1 v0 v1 v2 v3 v4 rd => by
  have k := H y hy (fit_elems l hl y hy) w1 P _ rd
  obtain ⟨_, _, _, _, _, _, _, _, rfl, -⟩ := Rd.is_s rd rfl
  exact k
theorem bar_b {l : X} (hl : l.fit 100000) (H : ∀ y ∈ l.elems, BareS y) {w : World} {P : Nat → Prop} {A : Option Addr} {c : Nat} (h : Sl l.len (Rd w P l).row 1 (.slice A l.len c)) : Calls Tryz.prog 68 #[.slice A l.len c, .func (.func 13) #[] #[]] w (ES l 1 w) :=
 each_b w P l A l.len c h (X.fit_len l hl) fun y hy w1 v0 rd => by
  have k := H y hy (fit_elems l hl y hy) w1 P _ rd
  obtain ⟨_, _, rfl, -⟩ := Rd.is_b rd rfl
  exact k _ rfl
theorem br_any {l : X} {w : World} {P : Nat → Prop} {A : Option Addr} {c : Nat} (hl : l.fit 100000) (H : ∀ y ∈ l.elems, BareS y) (h : Sl l.len (Rd w P l).row 5 (.slice A l.len c)) : Calls Tryz.prog 13 #[.slice A l.len c] w (ES l 5 w) := by
 have H1 := Lib.hid (bar_s hl H h)
 clear h H hl
 go_enter Tryz.func13, Tryz.ntmps13
 go_wp2_with (go_at_call 29; refine H1.out.mono ?_; rintro e w' ⟨v, rfl, sl, b⟩; have SB := Lib.hid sl; have B := Lib.hid b; clear sl b)
 go_ret
 exact ⟨_, rfl, SB.out, B.out⟩
theorem blk_end {l : X} {w : World} {v : Value} (h : Calls Tryz.prog 13 #[v] w (ES l 5 w)) : Calls Tryz.prog 13 #[v] w (EB (.blk l) w) := by
 refine h.mono ?_
 rintro e w' ⟨u, rfl, sl, b⟩
 exact ⟨u, rfl, (show ∃ v, #[u] = #[v] ∧ Sl l.bare.len (Rd w' (Lo w) l.bare).row 5 v from ⟨u, rfl, sl⟩), b⟩
set_option maxRecDepth 20000 in
set_option maxHeartbeats 8000000 in
theorem bareS_all (x : X) : BareS x ∧ ∀ y ∈ x.elems, BareS y := by
 refine X.all (S := BareS) ?_ ?_ ?_ ?_ (fun _ _ _ _ h => h.elim) (fun _ _ _ _ _ _ h => h.elim) x
 ·intro k a n sv op l fv hl hf fit w P cs rd
  obtain ⟨v5, v6, rfl, h1, h2⟩ := rd
  obtain ⟨A, c, rfl⟩ := sl_slice h1
  obtain ⟨B, d, rfl⟩ := sl_slice h2
  have H0 := Lib.hid (fun w1 (b : Below w.heap.size w w1) => clone_any w1 sv fit.2)
  have H1 := Lib.hid (fun w1 (b : Below w.heap.size w w1) => bar_e (P := P) fit.1.1 hl (Sl.bel b h1))
  have H2 := Lib.hid (fun w1 (b : Below w.heap.size w w1) => bar_f (P := P) fit.1.2 hf (Sl.bel b h2))
  clear h1 h2 hl hf fit
  show Calls _ _ _ _ (EE (X.e k a n sv op l fv) w)
  go_enter Tryz.func67, Tryz.ntmps67
  go_wp2_with fail
  have BW := Lib.hid (((Below.refl w.heap.size w).alloc (Nat.le_refl _) (.cells #[.int .i64 k, .int .i64 a, .int .i64 n, .string sv, .int .i64 op, .slice A l.len c, .slice B fv.len d] 41)).alloc (Nat.le_of_lt (al_lt w _)) (.cells Z7 41)).drew
  have KR : Hid (Blk ((w.alloc (.cells #[.int .i64 k, .int .i64 a, .int .i64 n, .string sv, .int .i64 op, .slice A l.len c, .slice B fv.len d] 41)).alloc (.cells Z7 41)).drew (w.heap.size + 1) Z7 41) := Lib.hid (by have k := Blk.new (w.alloc (.cells #[.int .i64 k, .int .i64 a, .int .i64 n, .string sv, .int .i64 op, .slice A l.len c, .slice B fv.len d] 41)) Z7 41; rwa [World.size_alloc] at k)
  obtain ⟨S, hS⟩ : ∃ S : World → Prop, S = (fun W => W.cell? ⟨w.heap.size, 0, none⟩ = some (.int .i64 k) ∧ W.cell? ⟨w.heap.size, 2, none⟩ = some (.int .i64 n) ∧ W.cell? ⟨w.heap.size, 3, none⟩ = some (.string sv) ∧ W.cell? ⟨w.heap.size, 4, none⟩ = some (.int .i64 op) ∧ W.cell? ⟨w.heap.size, 5, none⟩ = some (.slice A l.len c) ∧ W.cell? ⟨w.heap.size, 6, none⟩ = some (.slice B fv.len d)) := ⟨_, rfl⟩
  have s0 : S ((w.alloc (.cells #[.int .i64 k, .int .i64 a, .int .i64 n, .string sv, .int .i64 op, .slice A l.len c, .slice B fv.len d] 41)).alloc (.cells Z7 41)).drew := by
   rw [hS]
   obtain ⟨⟨q0, q1, q2, q3, q4, q5, q6⟩, -⟩ := (blk_al (.cells Z7 41) (Blk.new w #[.int .i64 k, .int .i64 a, .int .i64 n, .string sv, .int .i64 op, .slice A l.len c, .slice B fv.len d] 41)).seven
   exact ⟨q0, q2, q3, q4, q5, q6⟩
  have kp : ∀ W W', S W → Below W.heap.size W W' → S W' := fun W W' h b => by
   rw [hS] at h ⊢
   obtain ⟨h0, h2, h3, h4, h5, h6⟩ := h
   exact ⟨cell_in b h0, cell_in b h2, cell_in b h3, cell_in b h4, cell_in b h5, cell_in b h6⟩
  rw [hS] at s0 kp
  have S0 := Lib.hid s0
  have KP := Lib.hid kp
  clear s0 kp hS S
  have mixed : Tryz.prog.follows .mixedOrders = true := by kernel_rfl
  go_region_held3 (fun W => W.cell? ⟨w.heap.size, 0, none⟩ = some (.int .i64 k) ∧ W.cell? ⟨w.heap.size, 2, none⟩ = some (.int .i64 n) ∧ W.cell? ⟨w.heap.size, 3, none⟩ = some (.string sv) ∧ W.cell? ⟨w.heap.size, 4, none⟩ = some (.int .i64 op) ∧ W.cell? ⟨w.heap.size, 5, none⟩ = some (.slice A l.len c) ∧ W.cell? ⟨w.heap.size, 6, none⟩ = some (.slice B fv.len d)) (first | (simp only [cell_next]; assumption) | assumption | exact S0.out | exact KP.out _ _ (by assumption) (by assumption)) (first
   |(go_at_call 65; refine (H0.out _ BW.out).mono ?_; rintro e wA ⟨rfl, bA⟩; have XA := Lib.hid (BW.out.trans (bA.mono BW.out.size)); have KA := Lib.hid (KR.out.below bA KR.out.lt))
   |(go_at_call 66; refine (H1.out _ XA.out).mono ?_; rintro e wB ⟨vB, rfl, sB, bB⟩; have XB := Lib.hid (XA.out.trans (bB.mono XA.out.size)); have KB := Lib.hid (KA.out.below bB KA.out.lt); obtain ⟨AB, dB, rfl⟩ := sl_slice sB; have NB := Lib.hid sB; have LPB := Lib.hid KA.out.lt; have BBB := Lib.hid bB)
   |(go_at_call 117; refine (H2.out _ XB.out).mono ?_; rintro e wC ⟨vC, rfl, sC, bC⟩; have XC := Lib.hid (XB.out.trans (bC.mono XB.out.size)); have KC := Lib.hid (KB.out.below bC KB.out.lt); obtain ⟨AC, dC, rfl⟩ := sl_slice sC; have NC := Lib.hid sC; have LPC := Lib.hid KB.out.lt; have BBC := Lib.hid bC; obtain ⟨⟨r0, r1, r2, r3, r4, r5, r6⟩, f0, f1, f2, f3, f4, f5, f6⟩ := KC.out.seven))
  go_wp2_with fail
  have KZ := Lib.hid (blk_set7 KC.out (.int .i64 k) (.int .i64 0) (.int .i64 n) (.string sv) (.int .i64 op) (.slice AB l.bare.len dB) (.slice AC fv.bare.len dC))
  have OZ := Lib.hid (only_set7 wC (w.heap.size + 1) (.int .i64 k) (.int .i64 0) (.int .i64 n) (.string sv) (.int .i64 op) (.slice AB l.bare.len dB) (.slice AC fv.bare.len dC))
  refine bodyPost_ret (res7 rfl _ _ (w.heap.size + 1) _ _ _ _ _ _ _ rfl KZ.out) rfl ?_
  exact ⟨_, rfl, ⟨_, _, rfl, slEnd NB.out LPB.out XA.out.size BBC.out OZ.out, slEnd NC.out LPC.out XB.out.size (Below.refl _ _) OZ.out⟩, XC.out.trans (OZ.out.below (B := w.heap.size) (fun n e => by omega) XC.out.size)⟩
 ·intro ps b hb fit w P cs rd
  obtain ⟨v0, v1, rfl, h1, h2⟩ := rd
  obtain ⟨A, c, rfl⟩ := strs_slice h1
  obtain ⟨B, d, rfl⟩ := sl_slice h2
  have H1 := Lib.hid (fun w1 (k : Below w.heap.size w w1) => each_t w1 P ps _ (Strs.bel k h1) fit.1.1 fit.2)
  have H2 := Lib.hid (fun w1 (k : Below w.heap.size w w1) => br_any (P := P) fit.1.2 hb (Sl.bel k h2))
  clear h1 h2 hb fit
  show Calls _ _ _ _ (EE (X.f ps b) w)
  go_enter Tryz.func118, Tryz.ntmps118
  go_wp2_with fail
  have BW := Lib.hid (((Below.refl w.heap.size w).alloc (Nat.le_refl _) (.cells #[.slice A ps.length c, .slice B b.len d] 94)).alloc (Nat.le_of_lt (al_lt w _)) (.cells Z2 94)).drew
  have KR : Hid (Blk ((w.alloc (.cells #[.slice A ps.length c, .slice B b.len d] 94)).alloc (.cells Z2 94)).drew (w.heap.size + 1) Z2 94) := Lib.hid (by have k := Blk.new (w.alloc (.cells #[.slice A ps.length c, .slice B b.len d] 94)) Z2 94; rwa [World.size_alloc] at k)
  obtain ⟨S, hS⟩ : ∃ S : World → Prop, S = (fun W => W.cell? ⟨w.heap.size, 0, none⟩ = some (.slice A ps.length c) ∧ W.cell? ⟨w.heap.size, 1, none⟩ = some (.slice B b.len d)) := ⟨_, rfl⟩
  have s0 : S ((w.alloc (.cells #[.slice A ps.length c, .slice B b.len d] 94)).alloc (.cells Z2 94)).drew := by
   rw [hS]
   obtain ⟨⟨q0, q1⟩, -⟩ := (blk_al (.cells Z2 94) (Blk.new w #[.slice A ps.length c, .slice B b.len d] 94)).pair
   exact ⟨q0, q1⟩
  have kp : ∀ W W', S W → Below W.heap.size W W' → S W' := fun W W' h b => by
   rw [hS] at h ⊢
   obtain ⟨h0, h1⟩ := h
   exact ⟨cell_in b h0, cell_in b h1⟩
  rw [hS] at s0 kp
  have S0 := Lib.hid s0
  have KP := Lib.hid kp
  clear s0 kp hS S
  have mixed : Tryz.prog.follows .mixedOrders = true := by kernel_rfl
  go_region_held3 (fun W => W.cell? ⟨w.heap.size, 0, none⟩ = some (.slice A ps.length c) ∧ W.cell? ⟨w.heap.size, 1, none⟩ = some (.slice B b.len d)) (first | (simp only [cell_next]; assumption) | assumption | exact S0.out | exact KP.out _ _ (by assumption) (by assumption)) (first
   |(go_at_call 64; refine (H1.out _ BW.out).mono ?_; rintro e wA ⟨vA, rfl, sA, bA⟩; have XA := Lib.hid (BW.out.trans (bA.mono BW.out.size)); have KA := Lib.hid (KR.out.below bA KR.out.lt); obtain ⟨AA, dA, rfl⟩ := strs_slice sA; have NA := Lib.hid sA; have LPA := Lib.hid KR.out.lt)
   |(go_at_call 13; refine (H2.out _ XA.out).mono ?_; rintro e wB ⟨vB, rfl, sB, bB⟩; have XB := Lib.hid (XA.out.trans (bB.mono XA.out.size)); have KB := Lib.hid (KA.out.below bB KA.out.lt); obtain ⟨AB, dB, rfl⟩ := sl_slice sB; have NB := Lib.hid sB; have LPB := Lib.hid KA.out.lt; have BBB := Lib.hid bB; obtain ⟨⟨r0, r1⟩, f0, f1⟩ := KB.out.pair))
  go_wp2_with fail
  have KZ := Lib.hid (blk_set2 KB.out (.slice AA ps.length dA) (.slice AB b.bare.len dB))
  have OZ := Lib.hid (only_set2 wB (w.heap.size + 1) (.slice AA ps.length dA) (.slice AB b.bare.len dB))
  refine bodyPost_ret (res2 rfl _ _ (w.heap.size + 1) _ _ rfl KZ.out) rfl ?_
  exact ⟨_, rfl, ⟨_, _, rfl, stEnd NA.out LPA.out BW.out.size BBB.out OZ.out, slEnd NB.out LPB.out XA.out.size (Below.refl _ _) OZ.out⟩, XB.out.trans (OZ.out.below (B := w.heap.size) (fun n e => by omega) XB.out.size)⟩
 ·intro k a ns l b hl hb fit w P cs rd
  obtain ⟨v2, v3, v4, rfl, h0, h1, h2⟩ := rd
  obtain ⟨N, nc, rfl⟩ := strs_slice h0
  obtain ⟨A, c, rfl⟩ := sl_slice h1
  obtain ⟨B, d, rfl⟩ := sl_slice h2
  have H0 := Lib.hid (fun w1 (z : Below w.heap.size w w1) => each_t w1 P ns _ (Strs.bel z h0) fit.1.1 fit.2)
  have H1 := Lib.hid (fun w1 (z : Below w.heap.size w w1) => bar_e (P := P) fit.1.2.1 hl (Sl.bel z h1))
  have H2 := Lib.hid (fun w1 (z : Below w.heap.size w w1) => bar_b (P := P) fit.1.2.2 hb (Sl.bel z h2))
  clear h0 h1 h2 hl hb fit
  show Calls _ _ _ _ (EE (X.s k a ns l b) w)
  go_enter Tryz.func30, Tryz.ntmps30
  go_wp2_with fail
  have BW := Lib.hid (((Below.refl w.heap.size w).alloc (Nat.le_refl _) (.cells #[.int .i64 k, .int .i64 a, .slice N ns.length nc, .slice A l.len c, .slice B b.len d] 34)).alloc (Nat.le_of_lt (al_lt w _)) (.cells Z5 34)).drew
  have KR : Hid (Blk ((w.alloc (.cells #[.int .i64 k, .int .i64 a, .slice N ns.length nc, .slice A l.len c, .slice B b.len d] 34)).alloc (.cells Z5 34)).drew (w.heap.size + 1) Z5 34) := Lib.hid (by have k := Blk.new (w.alloc (.cells #[.int .i64 k, .int .i64 a, .slice N ns.length nc, .slice A l.len c, .slice B b.len d] 34)) Z5 34; rwa [World.size_alloc] at k)
  obtain ⟨S, hS⟩ : ∃ S : World → Prop, S = (fun W => W.cell? ⟨w.heap.size, 0, none⟩ = some (.int .i64 k) ∧ W.cell? ⟨w.heap.size, 2, none⟩ = some (.slice N ns.length nc) ∧ W.cell? ⟨w.heap.size, 3, none⟩ = some (.slice A l.len c) ∧ W.cell? ⟨w.heap.size, 4, none⟩ = some (.slice B b.len d)) := ⟨_, rfl⟩
  have s0 : S ((w.alloc (.cells #[.int .i64 k, .int .i64 a, .slice N ns.length nc, .slice A l.len c, .slice B b.len d] 34)).alloc (.cells Z5 34)).drew := by
   rw [hS]
   obtain ⟨⟨q0, q1, q2, q3, q4⟩, -⟩ := (blk_al (.cells Z5 34) (Blk.new w #[.int .i64 k, .int .i64 a, .slice N ns.length nc, .slice A l.len c, .slice B b.len d] 34)).five
   exact ⟨q0, q2, q3, q4⟩
  have kp : ∀ W W', S W → Below W.heap.size W W' → S W' := fun W W' h b => by
   rw [hS] at h ⊢
   obtain ⟨h0, h2, h3, h4⟩ := h
   exact ⟨cell_in b h0, cell_in b h2, cell_in b h3, cell_in b h4⟩
  rw [hS] at s0 kp
  have S0 := Lib.hid s0
  have KP := Lib.hid kp
  clear s0 kp hS S
  have mixed : Tryz.prog.follows .mixedOrders = true := by kernel_rfl
  go_region_held3 (fun W => W.cell? ⟨w.heap.size, 0, none⟩ = some (.int .i64 k) ∧ W.cell? ⟨w.heap.size, 2, none⟩ = some (.slice N ns.length nc) ∧ W.cell? ⟨w.heap.size, 3, none⟩ = some (.slice A l.len c) ∧ W.cell? ⟨w.heap.size, 4, none⟩ = some (.slice B b.len d)) (first | (simp only [cell_next]; assumption) | assumption | exact S0.out | exact KP.out _ _ (by assumption) (by assumption)) (first
   |(go_at_call 64; refine (H0.out _ BW.out).mono ?_; rintro e wA ⟨vA, rfl, sA, bA⟩; have XA := Lib.hid (BW.out.trans (bA.mono BW.out.size)); have KA := Lib.hid (KR.out.below bA KR.out.lt); obtain ⟨AA, dA, rfl⟩ := strs_slice sA; have NA := Lib.hid sA; have LPA := Lib.hid KR.out.lt)
   |(go_at_call 66; refine (H1.out _ XA.out).mono ?_; rintro e wB ⟨vB, rfl, sB, bB⟩; have XB := Lib.hid (XA.out.trans (bB.mono XA.out.size)); have KB := Lib.hid (KA.out.below bB KA.out.lt); obtain ⟨AB, dB, rfl⟩ := sl_slice sB; have NB := Lib.hid sB; have LPB := Lib.hid KA.out.lt; have BBB := Lib.hid bB)
   |(go_at_call 68; refine (H2.out _ XB.out).mono ?_; rintro e wC ⟨vC, rfl, sC, bC⟩; have XC := Lib.hid (XB.out.trans (bC.mono XB.out.size)); have KC := Lib.hid (KB.out.below bC KB.out.lt); obtain ⟨AC, dC, rfl⟩ := sl_slice sC; have NC := Lib.hid sC; have LPC := Lib.hid KB.out.lt; have BBC := Lib.hid bC; obtain ⟨⟨r0, r1, r2, r3, r4⟩, f0, f1, f2, f3, f4⟩ := KC.out.five))
  go_wp2_with fail
  have KZ := Lib.hid (blk_set5 KC.out (.int .i64 k) (.int .i64 0) (.slice AA ns.length dA) (.slice AB l.bare.len dB) (.slice AC b.bare.len dC))
  have OZ := Lib.hid (only_set5 wC (w.heap.size + 1) (.int .i64 k) (.int .i64 0) (.slice AA ns.length dA) (.slice AB l.bare.len dB) (.slice AC b.bare.len dC))
  refine bodyPost_ret (res5 rfl _ _ (w.heap.size + 1) _ _ _ _ _ rfl KZ.out) rfl ?_
  exact ⟨_, rfl, ⟨_, _, _, rfl, stEnd NA.out LPA.out BW.out.size (BBB.out.trans (BBC.out.mono BBB.out.size)) OZ.out, slEnd NB.out LPB.out XA.out.size BBC.out OZ.out, slEnd NC.out LPC.out XB.out.size (Below.refl _ _) OZ.out⟩, XC.out.trans (OZ.out.below (B := w.heap.size) (fun n e => by omega) XC.out.size)⟩
 ·intro l hl fit w P cs rd v ev
  subst ev
  obtain ⟨v', e, h1⟩ := rd
  obtain rfl : v' = v := by injection e with e; injection e with e; exact e.symm
  obtain ⟨A, c, rfl⟩ := sl_slice h1
  exact blk_end (br_any (P := P) (l := l) fit hl h1)
/-- Bare, of any tree whose rows and texts are not too great. -/
theorem bare_any {l : X} {w : World} {P : Nat → Prop} {v : Value} (hl : l.fit 100000) (h : Sl l.len (Rd w P l).row 5 v) : Calls Tryz.prog 13 #[v] w (ES l 5 w) := by
 obtain ⟨A, c, rfl⟩ := sl_slice h
 exact br_any hl (bareS_all l).2 h
end Go.Proofs.YtbcjpnmakcmndaaGreatDoor
