/- The document's parser: does a block end here? (printed by genends.py) -/
import Derived.Test.YteakhlnnepjhpaaKc
import Derived.Deep.RegionHeld
namespace Go.Proofs.Yteakhlnnepjhpaa
open Go.RowKit PrM
set_option linter.unusedVariables false
theorem PS.below {W W' : World} {g tg c : Nat} {T : List LxM.T} {st : St} (h : PS W g tg c T st) (k : Below W.heap.size W W') : PS W' g tg c T st := h.only (Only.of_below (F := fun _ => False) k) (fun _ f => f.elim)
theorem tkH {P : Program} {ops : Array Oper} {Q : Exit → Act → World → Prop} {md : Region.Mode} {S : World → Prop} {fuel : Nat} {listed l' : Array Bool} {a a' : Act} {w : World} {oi : Oper} {v : Value} (i : Nat) (hS : S w)
  (h : wpAnyH P md ops Q S fuel l' a' w) (hi : ops[i]? = some oi := by simp only [List.getElem?_toArray, List.getElem?_cons_succ, List.getElem?_cons_zero]; exact rfl)
  (hs : Region.noSelect ops = true := by kernel_rfl) (hf : Region.free md ops listed i = true := by kernel_rfl) (hr : (Region.ready md ops listed).contains i = true := by kernel_rfl)
  (hy : YieldsIf P ops S oi v a := by
   first
   | exact Or.inr ⟨by rfl, rfl⟩
   |(refine Or.inl ⟨by rfl, ?_⟩; intro W hSw; obtain ⟨⟨c0, c1, c2, c3⟩, -, -, -, -⟩ := hSw.blk.four; obtain ⟨t0, t1, t2, t3⟩ := hSw.tok; (first | obtain ⟨n0, n1⟩ := hSw.tok_next hn | skip); go_simp; try with_reducible rfl))
  (hQ : ∀ c a w, Q (.panic c) (a.put oi.dst v) w → Q (.panic c) a w := by exact fun _ _ _ h => h)
  (hl : listed.setIfInBounds i true = l' := by (try simp only [List.setIfInBounds_toArray, List.set_cons_zero, List.set_cons_succ]); exact rfl)
  (ha : a.put oi.dst v = a' := by (try simp only [Act.put, List.setIfInBounds_toArray, List.set_cons_zero, List.set_cons_succ]); exact rfl) :
  wpAnyH P md ops Q S (fuel + 1) listed a w := by
 subst hl ha
 exact wpAnyH_take hi hs hf hr hQ hy hS h
section
variable {W : World} {g tg c : Nat} {T : List LxM.T} {st : St}
set_option maxHeartbeats 8000000 in
theorem ends_1 (h : PS W g tg c T st) (q0 : (st.code != 0) = false) (q1 : ((PrM.tk T st).kind == 0) = false) (I1 : Hid (∀ W1 : World, PS W1 g tg c T st → Calls Try.prog 36 #[.pointer (some ⟨g, 0, none⟩), .string ⟨#[101, 110, 100]⟩] W1 fun e W' => e = .returned (.bool true) ∧ Below W1.heap.size W1 W')) : Calls Try.prog 33 #[.pointer (some ⟨g, 0, none⟩)] W fun e W' => e = .returned (.bool true) ∧ Below W.heap.size W W' := by
 have P := Lib.hid (h.sm (Sm.drewn W))
 have B := Lib.hid ((Below.refl W.heap.size W).drew)
 have i0 : (0 : Int) ≤ (st.i : Int) := by omega
 have i1 : (st.i : Int) < (T.length : Int) := by have := h.inb; omega
 have hc : (T.length : Int) ≤ (c : Int) := by have := h.cap; omega
 clear h
 go_enter Try.func33, Try.ntmps33
 go_wp2_with fail
 refine wp_region_held_drew (S := fun W => PS W g tg c T st) (by kernel_rfl) P.out (fun hH0 => ?_)
 refine tkH 0 hH0 ?_
 refine tkH 1 hH0 ?_
 refine tkH 2 hH0 ?_
 refine tkH 3 hH0 ?_
 refine tkH 4 hH0 ?_
 refine tkH 5 hH0 ?_
 refine tkH 6 hH0 ?_
 refine tkH 7 hH0 ?_
 refine tkH 8 hH0 ?_
 refine tkH 9 hH0 ?_
 refine tkH 10 hH0 ?_
 refine tkH 11 hH0 ?_
 refine tkH 12 hH0 ?_
 refine tkH 13 hH0 ?_
 refine tkH 14 hH0 ?_
 refine tkH 15 hH0 ?_
 refine tkH 16 hH0 ?_
 refine tkH 17 hH0 ?_
 refine tkH 18 hH0 ?_
 refine tkH 19 hH0 ?_
 refine tkH 20 hH0 ?_
 refine wpAnyH_ready (rs := [21]) (by kernel_rfl) (by simp) ?_
 refine AllReadyH.cons (o := ⟨some 24, .call { callee := .value (.func 36), args := #[.tmp 23, .const (Value.string { data := #[101, 110, 100] })], argTypes := #[46, 9] }, 4, "ref.go:584", #[⟨20, .data⟩, ⟨19, .chain⟩, ⟨19, .guard⟩], some (19, false)⟩) rfl (fun K hK => ?_) AllReadyH.nil
 rw [if_pos (by rfl)]
 go_wp2_with (go_at_call 36; refine (I1.out _ hH0).mono ?_; rintro e w1 ⟨rfl, b⟩; have B := Lib.hid (B.out.trans (b.mono B.out.size)); have P1 := Lib.hid (PS.below hH0 b); clear b)
 refine hK.out _ _ P1.out (fun hH1 => ?_)
 clear hK K
 try simp only [Act.put, List.setIfInBounds_toArray, List.set_cons_zero, List.set_cons_succ]
 refine tkH 22 hH1 ?_
 refine tkH 23 hH1 ?_
 refine tkH 24 hH1 ?_
 refine tkH 25 hH1 ?_
 refine tkH 26 hH1 ?_
 refine tkH 27 hH1 ?_
 refine tkH 28 hH1 ?_
 refine tkH 29 hH1 ?_
 refine tkH 30 hH1 ?_
 refine tkH 31 hH1 ?_
 refine tkH 32 hH1 ?_
 refine tkH 33 hH1 ?_
 refine tkH 34 hH1 ?_
 refine tkH 35 hH1 ?_
 refine wpAnyH_done (by kernel_rfl) ?_ _
 go_wp2_with fail
 go_ret
 exact ⟨rfl, B.out⟩
set_option maxHeartbeats 8000000 in
theorem ends_2 (h : PS W g tg c T st) (q0 : (st.code != 0) = false) (q1 : ((PrM.tk T st).kind == 0) = false) (I1 : Hid (∀ W1 : World, PS W1 g tg c T st → Calls Try.prog 36 #[.pointer (some ⟨g, 0, none⟩), .string ⟨#[101, 110, 100]⟩] W1 fun e W' => e = .returned (.bool false) ∧ Below W1.heap.size W1 W')) (I2 : Hid (∀ W1 : World, PS W1 g tg c T st → Calls Try.prog 36 #[.pointer (some ⟨g, 0, none⟩), .string ⟨#[101, 108, 115, 101]⟩] W1 fun e W' => e = .returned (.bool true) ∧ Below W1.heap.size W1 W')) : Calls Try.prog 33 #[.pointer (some ⟨g, 0, none⟩)] W fun e W' => e = .returned (.bool true) ∧ Below W.heap.size W W' := by
 have P := Lib.hid (h.sm (Sm.drewn W))
 have B := Lib.hid ((Below.refl W.heap.size W).drew)
 have i0 : (0 : Int) ≤ (st.i : Int) := by omega
 have i1 : (st.i : Int) < (T.length : Int) := by have := h.inb; omega
 have hc : (T.length : Int) ≤ (c : Int) := by have := h.cap; omega
 clear h
 go_enter Try.func33, Try.ntmps33
 go_wp2_with fail
 refine wp_region_held_drew (S := fun W => PS W g tg c T st) (by kernel_rfl) P.out (fun hH0 => ?_)
 refine tkH 0 hH0 ?_
 refine tkH 1 hH0 ?_
 refine tkH 2 hH0 ?_
 refine tkH 3 hH0 ?_
 refine tkH 4 hH0 ?_
 refine tkH 5 hH0 ?_
 refine tkH 6 hH0 ?_
 refine tkH 7 hH0 ?_
 refine tkH 8 hH0 ?_
 refine tkH 9 hH0 ?_
 refine tkH 10 hH0 ?_
 refine tkH 11 hH0 ?_
 refine tkH 12 hH0 ?_
 refine tkH 13 hH0 ?_
 refine tkH 14 hH0 ?_
 refine tkH 15 hH0 ?_
 refine tkH 16 hH0 ?_
 refine tkH 17 hH0 ?_
 refine tkH 18 hH0 ?_
 refine tkH 19 hH0 ?_
 refine tkH 20 hH0 ?_
 refine wpAnyH_ready (rs := [21]) (by kernel_rfl) (by simp) ?_
 refine AllReadyH.cons (o := ⟨some 24, .call { callee := .value (.func 36), args := #[.tmp 23, .const (Value.string { data := #[101, 110, 100] })], argTypes := #[46, 9] }, 4, "ref.go:584", #[⟨20, .data⟩, ⟨19, .chain⟩, ⟨19, .guard⟩], some (19, false)⟩) rfl (fun K hK => ?_) AllReadyH.nil
 rw [if_pos (by rfl)]
 go_wp2_with (go_at_call 36; refine (I1.out _ hH0).mono ?_; rintro e w1 ⟨rfl, b⟩; have B := Lib.hid (B.out.trans (b.mono B.out.size)); have P1 := Lib.hid (PS.below hH0 b); clear b)
 refine hK.out _ _ P1.out (fun hH1 => ?_)
 clear hK K
 try simp only [Act.put, List.setIfInBounds_toArray, List.set_cons_zero, List.set_cons_succ]
 refine tkH 22 hH1 ?_
 refine tkH 23 hH1 ?_
 refine tkH 24 hH1 ?_
 refine wpAnyH_ready (rs := [25]) (by kernel_rfl) (by simp) ?_
 refine AllReadyH.cons (o := ⟨some 28, .call { callee := .value (.func 36), args := #[.tmp 27, .const (Value.string { data := #[101, 108, 115, 101] })], argTypes := #[46, 9] }, 4, "ref.go:584", #[⟨24, .data⟩, ⟨23, .chain⟩, ⟨23, .guard⟩], some (23, false)⟩) rfl (fun K hK => ?_) AllReadyH.nil
 rw [if_pos (by rfl)]
 go_wp2_with (go_at_call 36; refine (I2.out _ hH1).mono ?_; rintro e w2 ⟨rfl, b⟩; have B := Lib.hid (B.out.trans (b.mono B.out.size)); have P2 := Lib.hid (PS.below hH1 b); clear b)
 refine hK.out _ _ P2.out (fun hH2 => ?_)
 clear hK K
 try simp only [Act.put, List.setIfInBounds_toArray, List.set_cons_zero, List.set_cons_succ]
 refine tkH 26 hH2 ?_
 refine tkH 27 hH2 ?_
 refine tkH 28 hH2 ?_
 refine tkH 29 hH2 ?_
 refine tkH 30 hH2 ?_
 refine tkH 31 hH2 ?_
 refine tkH 32 hH2 ?_
 refine tkH 33 hH2 ?_
 refine tkH 34 hH2 ?_
 refine tkH 35 hH2 ?_
 refine wpAnyH_done (by kernel_rfl) ?_ _
 go_wp2_with fail
 go_ret
 exact ⟨rfl, B.out⟩
set_option maxHeartbeats 8000000 in
theorem ends_3 (h : PS W g tg c T st) (q0 : (st.code != 0) = false) (q1 : ((PrM.tk T st).kind == 0) = false) (I1 : Hid (∀ W1 : World, PS W1 g tg c T st → Calls Try.prog 36 #[.pointer (some ⟨g, 0, none⟩), .string ⟨#[101, 110, 100]⟩] W1 fun e W' => e = .returned (.bool false) ∧ Below W1.heap.size W1 W')) (I2 : Hid (∀ W1 : World, PS W1 g tg c T st → Calls Try.prog 36 #[.pointer (some ⟨g, 0, none⟩), .string ⟨#[101, 108, 115, 101]⟩] W1 fun e W' => e = .returned (.bool false) ∧ Below W1.heap.size W1 W')) (I3 : Hid (∀ W1 : World, PS W1 g tg c T st → Calls Try.prog 36 #[.pointer (some ⟨g, 0, none⟩), .string ⟨#[101, 108, 115, 101, 105, 102]⟩] W1 fun e W' => e = .returned (.bool true) ∧ Below W1.heap.size W1 W')) : Calls Try.prog 33 #[.pointer (some ⟨g, 0, none⟩)] W fun e W' => e = .returned (.bool true) ∧ Below W.heap.size W W' := by
 have P := Lib.hid (h.sm (Sm.drewn W))
 have B := Lib.hid ((Below.refl W.heap.size W).drew)
 have i0 : (0 : Int) ≤ (st.i : Int) := by omega
 have i1 : (st.i : Int) < (T.length : Int) := by have := h.inb; omega
 have hc : (T.length : Int) ≤ (c : Int) := by have := h.cap; omega
 clear h
 go_enter Try.func33, Try.ntmps33
 go_wp2_with fail
 refine wp_region_held_drew (S := fun W => PS W g tg c T st) (by kernel_rfl) P.out (fun hH0 => ?_)
 refine tkH 0 hH0 ?_
 refine tkH 1 hH0 ?_
 refine tkH 2 hH0 ?_
 refine tkH 3 hH0 ?_
 refine tkH 4 hH0 ?_
 refine tkH 5 hH0 ?_
 refine tkH 6 hH0 ?_
 refine tkH 7 hH0 ?_
 refine tkH 8 hH0 ?_
 refine tkH 9 hH0 ?_
 refine tkH 10 hH0 ?_
 refine tkH 11 hH0 ?_
 refine tkH 12 hH0 ?_
 refine tkH 13 hH0 ?_
 refine tkH 14 hH0 ?_
 refine tkH 15 hH0 ?_
 refine tkH 16 hH0 ?_
 refine tkH 17 hH0 ?_
 refine tkH 18 hH0 ?_
 refine tkH 19 hH0 ?_
 refine tkH 20 hH0 ?_
 refine wpAnyH_ready (rs := [21]) (by kernel_rfl) (by simp) ?_
 refine AllReadyH.cons (o := ⟨some 24, .call { callee := .value (.func 36), args := #[.tmp 23, .const (Value.string { data := #[101, 110, 100] })], argTypes := #[46, 9] }, 4, "ref.go:584", #[⟨20, .data⟩, ⟨19, .chain⟩, ⟨19, .guard⟩], some (19, false)⟩) rfl (fun K hK => ?_) AllReadyH.nil
 rw [if_pos (by rfl)]
 go_wp2_with (go_at_call 36; refine (I1.out _ hH0).mono ?_; rintro e w1 ⟨rfl, b⟩; have B := Lib.hid (B.out.trans (b.mono B.out.size)); have P1 := Lib.hid (PS.below hH0 b); clear b)
 refine hK.out _ _ P1.out (fun hH1 => ?_)
 clear hK K
 try simp only [Act.put, List.setIfInBounds_toArray, List.set_cons_zero, List.set_cons_succ]
 refine tkH 22 hH1 ?_
 refine tkH 23 hH1 ?_
 refine tkH 24 hH1 ?_
 refine wpAnyH_ready (rs := [25]) (by kernel_rfl) (by simp) ?_
 refine AllReadyH.cons (o := ⟨some 28, .call { callee := .value (.func 36), args := #[.tmp 27, .const (Value.string { data := #[101, 108, 115, 101] })], argTypes := #[46, 9] }, 4, "ref.go:584", #[⟨24, .data⟩, ⟨23, .chain⟩, ⟨23, .guard⟩], some (23, false)⟩) rfl (fun K hK => ?_) AllReadyH.nil
 rw [if_pos (by rfl)]
 go_wp2_with (go_at_call 36; refine (I2.out _ hH1).mono ?_; rintro e w2 ⟨rfl, b⟩; have B := Lib.hid (B.out.trans (b.mono B.out.size)); have P2 := Lib.hid (PS.below hH1 b); clear b)
 refine hK.out _ _ P2.out (fun hH2 => ?_)
 clear hK K
 try simp only [Act.put, List.setIfInBounds_toArray, List.set_cons_zero, List.set_cons_succ]
 refine tkH 26 hH2 ?_
 refine tkH 27 hH2 ?_
 refine tkH 28 hH2 ?_
 refine wpAnyH_ready (rs := [29]) (by kernel_rfl) (by simp) ?_
 refine AllReadyH.cons (o := ⟨some 32, .call { callee := .value (.func 36), args := #[.tmp 31, .const (Value.string { data := #[101, 108, 115, 101, 105, 102] })], argTypes := #[46, 9] }, 4, "ref.go:584", #[⟨28, .data⟩, ⟨27, .chain⟩, ⟨27, .guard⟩], some (27, false)⟩) rfl (fun K hK => ?_) AllReadyH.nil
 rw [if_pos (by rfl)]
 go_wp2_with (go_at_call 36; refine (I3.out _ hH2).mono ?_; rintro e w3 ⟨rfl, b⟩; have B := Lib.hid (B.out.trans (b.mono B.out.size)); have P3 := Lib.hid (PS.below hH2 b); clear b)
 refine hK.out _ _ P3.out (fun hH3 => ?_)
 clear hK K
 try simp only [Act.put, List.setIfInBounds_toArray, List.set_cons_zero, List.set_cons_succ]
 refine tkH 30 hH3 ?_
 refine tkH 31 hH3 ?_
 refine tkH 32 hH3 ?_
 refine tkH 33 hH3 ?_
 refine tkH 34 hH3 ?_
 refine tkH 35 hH3 ?_
 refine wpAnyH_done (by kernel_rfl) ?_ _
 go_wp2_with fail
 go_ret
 exact ⟨rfl, B.out⟩
set_option maxHeartbeats 8000000 in
theorem ends_4 (h : PS W g tg c T st) (q0 : (st.code != 0) = false) (q1 : ((PrM.tk T st).kind == 0) = false) (I1 : Hid (∀ W1 : World, PS W1 g tg c T st → Calls Try.prog 36 #[.pointer (some ⟨g, 0, none⟩), .string ⟨#[101, 110, 100]⟩] W1 fun e W' => e = .returned (.bool false) ∧ Below W1.heap.size W1 W')) (I2 : Hid (∀ W1 : World, PS W1 g tg c T st → Calls Try.prog 36 #[.pointer (some ⟨g, 0, none⟩), .string ⟨#[101, 108, 115, 101]⟩] W1 fun e W' => e = .returned (.bool false) ∧ Below W1.heap.size W1 W')) (I3 : Hid (∀ W1 : World, PS W1 g tg c T st → Calls Try.prog 36 #[.pointer (some ⟨g, 0, none⟩), .string ⟨#[101, 108, 115, 101, 105, 102]⟩] W1 fun e W' => e = .returned (.bool false) ∧ Below W1.heap.size W1 W')) (I4 : Hid (∀ W1 : World, PS W1 g tg c T st → Calls Try.prog 36 #[.pointer (some ⟨g, 0, none⟩), .string ⟨#[117, 110, 116, 105, 108]⟩] W1 fun e W' => e = .returned (.bool true) ∧ Below W1.heap.size W1 W')) : Calls Try.prog 33 #[.pointer (some ⟨g, 0, none⟩)] W fun e W' => e = .returned (.bool true) ∧ Below W.heap.size W W' := by
 have P := Lib.hid (h.sm (Sm.drewn W))
 have B := Lib.hid ((Below.refl W.heap.size W).drew)
 have i0 : (0 : Int) ≤ (st.i : Int) := by omega
 have i1 : (st.i : Int) < (T.length : Int) := by have := h.inb; omega
 have hc : (T.length : Int) ≤ (c : Int) := by have := h.cap; omega
 clear h
 go_enter Try.func33, Try.ntmps33
 go_wp2_with fail
 refine wp_region_held_drew (S := fun W => PS W g tg c T st) (by kernel_rfl) P.out (fun hH0 => ?_)
 refine tkH 0 hH0 ?_
 refine tkH 1 hH0 ?_
 refine tkH 2 hH0 ?_
 refine tkH 3 hH0 ?_
 refine tkH 4 hH0 ?_
 refine tkH 5 hH0 ?_
 refine tkH 6 hH0 ?_
 refine tkH 7 hH0 ?_
 refine tkH 8 hH0 ?_
 refine tkH 9 hH0 ?_
 refine tkH 10 hH0 ?_
 refine tkH 11 hH0 ?_
 refine tkH 12 hH0 ?_
 refine tkH 13 hH0 ?_
 refine tkH 14 hH0 ?_
 refine tkH 15 hH0 ?_
 refine tkH 16 hH0 ?_
 refine tkH 17 hH0 ?_
 refine tkH 18 hH0 ?_
 refine tkH 19 hH0 ?_
 refine tkH 20 hH0 ?_
 refine wpAnyH_ready (rs := [21]) (by kernel_rfl) (by simp) ?_
 refine AllReadyH.cons (o := ⟨some 24, .call { callee := .value (.func 36), args := #[.tmp 23, .const (Value.string { data := #[101, 110, 100] })], argTypes := #[46, 9] }, 4, "ref.go:584", #[⟨20, .data⟩, ⟨19, .chain⟩, ⟨19, .guard⟩], some (19, false)⟩) rfl (fun K hK => ?_) AllReadyH.nil
 rw [if_pos (by rfl)]
 go_wp2_with (go_at_call 36; refine (I1.out _ hH0).mono ?_; rintro e w1 ⟨rfl, b⟩; have B := Lib.hid (B.out.trans (b.mono B.out.size)); have P1 := Lib.hid (PS.below hH0 b); clear b)
 refine hK.out _ _ P1.out (fun hH1 => ?_)
 clear hK K
 try simp only [Act.put, List.setIfInBounds_toArray, List.set_cons_zero, List.set_cons_succ]
 refine tkH 22 hH1 ?_
 refine tkH 23 hH1 ?_
 refine tkH 24 hH1 ?_
 refine wpAnyH_ready (rs := [25]) (by kernel_rfl) (by simp) ?_
 refine AllReadyH.cons (o := ⟨some 28, .call { callee := .value (.func 36), args := #[.tmp 27, .const (Value.string { data := #[101, 108, 115, 101] })], argTypes := #[46, 9] }, 4, "ref.go:584", #[⟨24, .data⟩, ⟨23, .chain⟩, ⟨23, .guard⟩], some (23, false)⟩) rfl (fun K hK => ?_) AllReadyH.nil
 rw [if_pos (by rfl)]
 go_wp2_with (go_at_call 36; refine (I2.out _ hH1).mono ?_; rintro e w2 ⟨rfl, b⟩; have B := Lib.hid (B.out.trans (b.mono B.out.size)); have P2 := Lib.hid (PS.below hH1 b); clear b)
 refine hK.out _ _ P2.out (fun hH2 => ?_)
 clear hK K
 try simp only [Act.put, List.setIfInBounds_toArray, List.set_cons_zero, List.set_cons_succ]
 refine tkH 26 hH2 ?_
 refine tkH 27 hH2 ?_
 refine tkH 28 hH2 ?_
 refine wpAnyH_ready (rs := [29]) (by kernel_rfl) (by simp) ?_
 refine AllReadyH.cons (o := ⟨some 32, .call { callee := .value (.func 36), args := #[.tmp 31, .const (Value.string { data := #[101, 108, 115, 101, 105, 102] })], argTypes := #[46, 9] }, 4, "ref.go:584", #[⟨28, .data⟩, ⟨27, .chain⟩, ⟨27, .guard⟩], some (27, false)⟩) rfl (fun K hK => ?_) AllReadyH.nil
 rw [if_pos (by rfl)]
 go_wp2_with (go_at_call 36; refine (I3.out _ hH2).mono ?_; rintro e w3 ⟨rfl, b⟩; have B := Lib.hid (B.out.trans (b.mono B.out.size)); have P3 := Lib.hid (PS.below hH2 b); clear b)
 refine hK.out _ _ P3.out (fun hH3 => ?_)
 clear hK K
 try simp only [Act.put, List.setIfInBounds_toArray, List.set_cons_zero, List.set_cons_succ]
 refine tkH 30 hH3 ?_
 refine tkH 31 hH3 ?_
 refine tkH 32 hH3 ?_
 refine wpAnyH_ready (rs := [33]) (by kernel_rfl) (by simp) ?_
 refine AllReadyH.cons (o := ⟨some 36, .call { callee := .value (.func 36), args := #[.tmp 35, .const (Value.string { data := #[117, 110, 116, 105, 108] })], argTypes := #[46, 9] }, 4, "ref.go:584", #[⟨32, .data⟩, ⟨31, .chain⟩, ⟨31, .guard⟩], some (31, false)⟩) rfl (fun K hK => ?_) AllReadyH.nil
 rw [if_pos (by rfl)]
 go_wp2_with (go_at_call 36; refine (I4.out _ hH3).mono ?_; rintro e w4 ⟨rfl, b⟩; have B := Lib.hid (B.out.trans (b.mono B.out.size)); have P4 := Lib.hid (PS.below hH3 b); clear b)
 refine hK.out _ _ P4.out (fun hH4 => ?_)
 clear hK K
 try simp only [Act.put, List.setIfInBounds_toArray, List.set_cons_zero, List.set_cons_succ]
 refine tkH 34 hH4 ?_
 refine tkH 35 hH4 ?_
 refine wpAnyH_done (by kernel_rfl) ?_ _
 go_wp2_with fail
 go_ret
 exact ⟨rfl, B.out⟩
set_option maxHeartbeats 8000000 in
theorem ends_5 (h : PS W g tg c T st) (q0 : (st.code != 0) = false) (q1 : ((PrM.tk T st).kind == 0) = false) (I1 : Hid (∀ W1 : World, PS W1 g tg c T st → Calls Try.prog 36 #[.pointer (some ⟨g, 0, none⟩), .string ⟨#[101, 110, 100]⟩] W1 fun e W' => e = .returned (.bool false) ∧ Below W1.heap.size W1 W')) (I2 : Hid (∀ W1 : World, PS W1 g tg c T st → Calls Try.prog 36 #[.pointer (some ⟨g, 0, none⟩), .string ⟨#[101, 108, 115, 101]⟩] W1 fun e W' => e = .returned (.bool false) ∧ Below W1.heap.size W1 W')) (I3 : Hid (∀ W1 : World, PS W1 g tg c T st → Calls Try.prog 36 #[.pointer (some ⟨g, 0, none⟩), .string ⟨#[101, 108, 115, 101, 105, 102]⟩] W1 fun e W' => e = .returned (.bool false) ∧ Below W1.heap.size W1 W')) (I4 : Hid (∀ W1 : World, PS W1 g tg c T st → Calls Try.prog 36 #[.pointer (some ⟨g, 0, none⟩), .string ⟨#[117, 110, 116, 105, 108]⟩] W1 fun e W' => e = .returned (.bool false) ∧ Below W1.heap.size W1 W')) : Calls Try.prog 33 #[.pointer (some ⟨g, 0, none⟩)] W fun e W' => e = .returned (.bool false) ∧ Below W.heap.size W W' := by
 have P := Lib.hid (h.sm (Sm.drewn W))
 have B := Lib.hid ((Below.refl W.heap.size W).drew)
 have i0 : (0 : Int) ≤ (st.i : Int) := by omega
 have i1 : (st.i : Int) < (T.length : Int) := by have := h.inb; omega
 have hc : (T.length : Int) ≤ (c : Int) := by have := h.cap; omega
 clear h
 go_enter Try.func33, Try.ntmps33
 go_wp2_with fail
 refine wp_region_held_drew (S := fun W => PS W g tg c T st) (by kernel_rfl) P.out (fun hH0 => ?_)
 refine tkH 0 hH0 ?_
 refine tkH 1 hH0 ?_
 refine tkH 2 hH0 ?_
 refine tkH 3 hH0 ?_
 refine tkH 4 hH0 ?_
 refine tkH 5 hH0 ?_
 refine tkH 6 hH0 ?_
 refine tkH 7 hH0 ?_
 refine tkH 8 hH0 ?_
 refine tkH 9 hH0 ?_
 refine tkH 10 hH0 ?_
 refine tkH 11 hH0 ?_
 refine tkH 12 hH0 ?_
 refine tkH 13 hH0 ?_
 refine tkH 14 hH0 ?_
 refine tkH 15 hH0 ?_
 refine tkH 16 hH0 ?_
 refine tkH 17 hH0 ?_
 refine tkH 18 hH0 ?_
 refine tkH 19 hH0 ?_
 refine tkH 20 hH0 ?_
 refine wpAnyH_ready (rs := [21]) (by kernel_rfl) (by simp) ?_
 refine AllReadyH.cons (o := ⟨some 24, .call { callee := .value (.func 36), args := #[.tmp 23, .const (Value.string { data := #[101, 110, 100] })], argTypes := #[46, 9] }, 4, "ref.go:584", #[⟨20, .data⟩, ⟨19, .chain⟩, ⟨19, .guard⟩], some (19, false)⟩) rfl (fun K hK => ?_) AllReadyH.nil
 rw [if_pos (by rfl)]
 go_wp2_with (go_at_call 36; refine (I1.out _ hH0).mono ?_; rintro e w1 ⟨rfl, b⟩; have B := Lib.hid (B.out.trans (b.mono B.out.size)); have P1 := Lib.hid (PS.below hH0 b); clear b)
 refine hK.out _ _ P1.out (fun hH1 => ?_)
 clear hK K
 try simp only [Act.put, List.setIfInBounds_toArray, List.set_cons_zero, List.set_cons_succ]
 refine tkH 22 hH1 ?_
 refine tkH 23 hH1 ?_
 refine tkH 24 hH1 ?_
 refine wpAnyH_ready (rs := [25]) (by kernel_rfl) (by simp) ?_
 refine AllReadyH.cons (o := ⟨some 28, .call { callee := .value (.func 36), args := #[.tmp 27, .const (Value.string { data := #[101, 108, 115, 101] })], argTypes := #[46, 9] }, 4, "ref.go:584", #[⟨24, .data⟩, ⟨23, .chain⟩, ⟨23, .guard⟩], some (23, false)⟩) rfl (fun K hK => ?_) AllReadyH.nil
 rw [if_pos (by rfl)]
 go_wp2_with (go_at_call 36; refine (I2.out _ hH1).mono ?_; rintro e w2 ⟨rfl, b⟩; have B := Lib.hid (B.out.trans (b.mono B.out.size)); have P2 := Lib.hid (PS.below hH1 b); clear b)
 refine hK.out _ _ P2.out (fun hH2 => ?_)
 clear hK K
 try simp only [Act.put, List.setIfInBounds_toArray, List.set_cons_zero, List.set_cons_succ]
 refine tkH 26 hH2 ?_
 refine tkH 27 hH2 ?_
 refine tkH 28 hH2 ?_
 refine wpAnyH_ready (rs := [29]) (by kernel_rfl) (by simp) ?_
 refine AllReadyH.cons (o := ⟨some 32, .call { callee := .value (.func 36), args := #[.tmp 31, .const (Value.string { data := #[101, 108, 115, 101, 105, 102] })], argTypes := #[46, 9] }, 4, "ref.go:584", #[⟨28, .data⟩, ⟨27, .chain⟩, ⟨27, .guard⟩], some (27, false)⟩) rfl (fun K hK => ?_) AllReadyH.nil
 rw [if_pos (by rfl)]
 go_wp2_with (go_at_call 36; refine (I3.out _ hH2).mono ?_; rintro e w3 ⟨rfl, b⟩; have B := Lib.hid (B.out.trans (b.mono B.out.size)); have P3 := Lib.hid (PS.below hH2 b); clear b)
 refine hK.out _ _ P3.out (fun hH3 => ?_)
 clear hK K
 try simp only [Act.put, List.setIfInBounds_toArray, List.set_cons_zero, List.set_cons_succ]
 refine tkH 30 hH3 ?_
 refine tkH 31 hH3 ?_
 refine tkH 32 hH3 ?_
 refine wpAnyH_ready (rs := [33]) (by kernel_rfl) (by simp) ?_
 refine AllReadyH.cons (o := ⟨some 36, .call { callee := .value (.func 36), args := #[.tmp 35, .const (Value.string { data := #[117, 110, 116, 105, 108] })], argTypes := #[46, 9] }, 4, "ref.go:584", #[⟨32, .data⟩, ⟨31, .chain⟩, ⟨31, .guard⟩], some (31, false)⟩) rfl (fun K hK => ?_) AllReadyH.nil
 rw [if_pos (by rfl)]
 go_wp2_with (go_at_call 36; refine (I4.out _ hH3).mono ?_; rintro e w4 ⟨rfl, b⟩; have B := Lib.hid (B.out.trans (b.mono B.out.size)); have P4 := Lib.hid (PS.below hH3 b); clear b)
 refine hK.out _ _ P4.out (fun hH4 => ?_)
 clear hK K
 try simp only [Act.put, List.setIfInBounds_toArray, List.set_cons_zero, List.set_cons_succ]
 refine tkH 34 hH4 ?_
 refine tkH 35 hH4 ?_
 refine wpAnyH_done (by kernel_rfl) ?_ _
 go_wp2_with fail
 go_ret
 exact ⟨rfl, B.out⟩
set_option maxHeartbeats 4000000 in
theorem ends_any (h : PS W g tg c T st) :
  Calls Try.prog 33 #[.pointer (some ⟨g, 0, none⟩)] W fun e W' => e = .returned (.bool (ends T st)) ∧ Below W.heap.size W W' := by
 have h0 := h
 obtain ⟨⟨c0, c1, c2, c3⟩, f0, f1, f2, f3⟩ := h.blk.four
 obtain ⟨t0, t1, t2, t3⟩ := h.tok
 have i0 : (0 : Int) ≤ (st.i : Int) := by omega
 have i1 : (st.i : Int) < (T.length : Int) := by have := h.inb; omega
 have hc : (T.length : Int) ≤ (c : Int) := by have := h.cap; omega
 unfold PrM.ends
 have J := fun (W1 : World) (h1 : PS W1 g tg c T st) x => is_any h1 x
 by_cases e0 : st.code = 0
 ·have q0 : (st.code != 0) = false := by rw [e0]; rfl
  rw [show decide (st.code ≠ 0) = false by simpa using e0, Bool.false_or]
  by_cases k0 : (PrM.tk T st).kind = 0
  ·have q1 : ((PrM.tk T st).kind == 0) = true := by rw [k0]; rfl
   rw [show decide ((PrM.tk T st).kind = 0) = true by simpa using k0, Bool.true_or]
   clear h h0 J e0 k0
   go_enter Try.func33, Try.ntmps33
   go_wp2_with fail
   go_region
   go_wp2_with fail
   go_ret
   exact ⟨rfl, (Below.refl _ _).drew⟩
  ·have q1 : ((PrM.tk T st).kind == 0) = false := by simpa using k0
   rw [show decide ((PrM.tk T st).kind = 0) = false by simpa using k0, Bool.false_or]
   have J1 := fun (W1 : World) (h1 : PS W1 g tg c T st) => J W1 h1 ⟨#[101, 110, 100]⟩
   have J2 := fun (W1 : World) (h1 : PS W1 g tg c T st) => J W1 h1 ⟨#[101, 108, 115, 101]⟩
   have J3 := fun (W1 : World) (h1 : PS W1 g tg c T st) => J W1 h1 ⟨#[101, 108, 115, 101, 105, 102]⟩
   have J4 := fun (W1 : World) (h1 : PS W1 g tg c T st) => J W1 h1 ⟨#[117, 110, 116, 105, 108]⟩
   generalize PrM.is T ⟨#[101, 110, 100]⟩ st = b1 at *
   generalize PrM.is T ⟨#[101, 108, 115, 101]⟩ st = b2 at *
   generalize PrM.is T ⟨#[101, 108, 115, 101, 105, 102]⟩ st = b3 at *
   generalize PrM.is T ⟨#[117, 110, 116, 105, 108]⟩ st = b4 at *
   cases b1
   ·cases b2
    ·cases b3
     ·cases b4
      ·exact ends_5 h0 q0 q1 J1 J2 J3 J4
      ·exact ends_4 h0 q0 q1 J1 J2 J3 J4
     ·exact ends_3 h0 q0 q1 J1 J2 J3
    ·exact ends_2 h0 q0 q1 J1 J2
   ·exact ends_1 h0 q0 q1 J1
 ·have q0 : (st.code != 0) = true := by simpa using e0
  rw [show decide (st.code ≠ 0) = true by simpa using e0, Bool.true_or]
  clear h h0 J e0
  go_enter Try.func33, Try.ntmps33
  go_wp2_with fail
  go_region
  go_wp2_with fail
  go_ret
  exact ⟨rfl, (Below.refl _ _).drew⟩
end
end Go.Proofs.Yteakhlnnepjhpaa
