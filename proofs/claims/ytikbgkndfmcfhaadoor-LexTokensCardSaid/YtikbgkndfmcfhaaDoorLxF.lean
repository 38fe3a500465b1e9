/- Package lex: wordOf, sign, numberOf. -/
import Derived.Test.YtikbgkndfmcfhaaDoorLxK
import Derived.Test.YtikbgkndfmcfhaaDoorLxW
import Derived.Test.YtikbgkndfmcfhaaDoorLaid
import Derived.Deep.RegionHeld3
import Derived.BigRegion
namespace Go.Proofs.YtikbgkndfmcfhaaDoor
open Go.RowKit
set_option linter.unusedVariables false
theorem clone_any (s : ByteArray) (w : World) (hs : s.size ≤ 281474976710656) : Calls Tryd.prog 37 #[.string s] w fun e w' => e = .returned (.string s) ∧ Below w.heap.size w w' := by
  have CL := Lib.hid (Tryd.stringslite_Clone s w hs)
  go_enter Tryd.func37, Tryd.ntmps37
  go_wp2_with (go_at_call 41; refine CL.out.mono ?_; rintro e w' ⟨rfl, hb⟩)
  go_ret
  exact ⟨rfl, hb⟩
set_option maxHeartbeats 1000000 in
theorem wordof_any (s : ByteArray) (W : World) (hs : s.size ≤ 16384) :
    Calls Tryd.prog 31 #[.string s] W fun e W' => e = .returned (.tuple #[tval ⟨if LxM.isWord s.data.toList then 1 else 2, s.data.toList, 0, 0⟩, .bool (decide (s.size ≤ 32))]) ∧ Below W.heap.size W W' := by
  have CL := fun w => clone_any s w (by omega)
  have WD := fun w => word_any s w
  have hd : decide ((s.size : Int) ≤ 32) = decide (s.size ≤ 32) := by rw [decide_eq_decide]; omega
  unfold tval tcs
  rw [ba_eta]
  obtain ⟨KD, hkd⟩ : ∃ KD : Int, (if LxM.isWord s.data.toList = true then (1 : Int) else 2) = KD := ⟨_, rfl⟩
  rw [hkd]
  cases hw : LxM.isWord s.data.toList
  all_goals rw [hw] at WD hkd
  all_goals simp only [if_true, if_false, Bool.false_eq_true] at hkd
  all_goals subst hkd
  all_goals go_enter Tryd.func31, Tryd.ntmps31
  all_goals go_wp2_with (first
    | (go_at_call 12; refine (WD _).mono ?_; rintro e w' ⟨rfl, rfl⟩)
    | (go_at_call 37; refine (CL _).mono ?_; rintro e W1 ⟨rfl, hb⟩; have HB := Lib.hid hb; have BK := Lib.hid ((Blk.new W _ 31).keep HB.out); clear hb)
    | (refine wpList_store_row rfl 31 (.tmp 2) (.tmp 10) rfl W.heap.size #[.int .i64 _, .string s, .int .i64 0, .int .i64 0] rfl rfl 31 _ BK.out sizeT rfl (one4 _ _ _ _) ?_)
    | (refine wp_store_row 31 (.tmp 2) (.tmp 10) rfl W.heap.size #[.int .i64 _, .string s, .int .i64 0, .int .i64 0] rfl rfl 31 _ BK.out sizeT rfl (one4 _ _ _ _) ?_))
  all_goals refine bodyPost_ret (res_row_tmp (P := Tryd.prog) (fn := Tryd.f31) (p := 2) (u := 3) (ty := 31) rfl _ _ W.heap.size 31 _ (0, 0) _ _ rfl rfl (setRow_heap' _ _ _ _ _ BK.out) Tryd.underlying31 rfl sizeT) rfl ⟨?_, ?_⟩
  all_goals first
    | exact below_row (below_new HB.out) _ (Nat.le_refl _) _
    | (show Ending.returned (.tuple #[_, Value.bool (decide (s.size ≤ 32))]) = _; rfl)
theorem exd (s : ByteArray) (f k : Nat) : (s.extract f k).data.toList = (s.data.toList.drop f).take (k - f) := by simp
def TZ : Obj := .cells #[.int .i64 0, .string ⟨#[]⟩, .int .i64 0, .int .i64 0] 31
theorem sign_grown {W W1 W2 : World} {g b : Nat} {cs : Array Value} {o : Obj} (h : (W.alloc o).drew.grownBy W1 (some g)) (k : Below W1.heap.size W1 W2) (hb : W.heap.size ≤ b) : W.grownBy (W2.setRow b cs) (some g) := by
  have sz : W.heap.size ≤ (W.alloc o).drew.heap.size := ((Below.refl _ W).alloc (Nat.le_refl _) o).size
  refine ⟨k.os.trans h.os, k.tape.trans h.tape, k.output.trans h.output, ?_, fun i hi hne => ?_⟩
  · exact Nat.le_trans sz (Nat.le_trans h.size (Nat.le_trans k.size (grown_row W2 b cs).size))
  · rw [(grown_row W2 b cs).block i (by have := h.size; have := k.size; omega) (fun e => by have := Option.some.inj e; omega), k.block i (by have := h.size; omega), h.block i (by omega) hne]
    exact ((Below.refl _ W).alloc (Nat.le_refl _) o).block i hi
set_option maxHeartbeats 2000000 in
theorem sign_two (W : World) (g : Nat) (s : ByteArray) (f k k2 : Nat) (tv : Value) (h : Rb W g s f k tv) (hk : k = f + 1) (hk2 : k2 = f + 2) (hs : s.size ≤ 16384) (hlt : k < s.size) (b : Bool) (hb : LxM.isSign (s.extract f k2).data.toList = b) :
    Calls Tryd.prog 35 #[.pointer (some ⟨g, 0, none⟩)] W fun e W' => e = .returned (.tuple #[.agg #[.int .i64 5, .string (s.extract f (if b then k2 else k)), .int .i64 0, .int .i64 0], .bool (LxM.isSign (s.extract f (if b then k2 else k)).data.toList)]) ∧ Rb W' g s f (if b then k2 else k) tv ∧ W.grownBy W' (some g) := by
  have h2 : Rb (W.alloc (.cells #[.int .i64 0, .string ⟨#[]⟩, .int .i64 0, .int .i64 0] 31)) g s f k tv := h.keep ((Below.refl _ W).alloc (Nat.le_refl _) _)
  obtain ⟨c0, c1, c2, c3, f1, f2, f3⟩ := h2.four
  have IS := fun (x : ByteArray) w => issign_any x w
  have CL := fun (x : ByteArray) (hx : x.size ≤ 16384) w => clone_any x w (by omega)
  have xs : ∀ b, (s.extract f b).size ≤ 16384 := fun b => by rw [ByteArray.size_extract]; omega
  have TK := fun W k (h : Rb W g s f k tv) (h1 : f ≤ k) (h2 : k ≤ s.size) => taken_any W g s f k tv h h1 h2 hs
  have i1 : (0 : Int) ≤ (f : Int) := by omega
  have hlt2 : decide (k < s.size) = true := decide_eq_true hlt
  have ew2 : IntKind.i64.wrap ((k : Int) + 1) = (k2 : Int) := by rw [IntKind.wrap_i64]; omega
  have i3 : (k2 : Int) ≤ (s.size : Int) := by omega
  have i4 : (f : Int) ≤ (k2 : Int) := by omega
  have ew : wrap64 ((k : Int) + 1) = (k2 : Int) := by unfold wrap64; omega
  have ISB := IS (s.extract f k2)
  rw [hb] at ISB
  have HF := Lib.hid (show f ≤ k ∧ f ≤ k2 ∧ k ≤ s.size ∧ k2 ≤ s.size by omega)
  have HB2 := Lib.hid (show g < W.heap.size from h.lt)
  have HR2 := Lib.hid h2
  have S0 : Hid ((W.alloc (.cells #[.int .i64 0, .string ⟨#[]⟩, .int .i64 0, .int .i64 0] 31)).drew.cell? ⟨g, 0, none⟩ = some (.string s) ∧ (W.alloc (.cells #[.int .i64 0, .string ⟨#[]⟩, .int .i64 0, .int .i64 0] 31)).drew.cell? ⟨g, 1, none⟩ = some (.int .i64 (f : Int)) ∧ (W.alloc (.cells #[.int .i64 0, .string ⟨#[]⟩, .int .i64 0, .int .i64 0] 31)).drew.cell? ⟨g, 2, none⟩ = some (.int .i64 (k : Int))) := ⟨c0, c1, c2⟩
  clear h h2 hk hk2 hs hlt hb
  go_enter Tryd.func35, Tryd.ntmps35
  go_wp2_with fail
  go_region_held3 (fun W => W.cell? ⟨g, 0, none⟩ = some (.string s) ∧ W.cell? ⟨g, 1, none⟩ = some (.int .i64 (f : Int)) ∧ W.cell? ⟨g, 2, none⟩ = some (.int .i64 (k : Int))) (first | exact S0.out | assumption) (first
      | (go_at_call 40; refine (ISB _).mono ?_; rintro e w' ⟨rfl, rfl⟩))
  have BKN : Hid (Blk (W.alloc TZ).drew W.heap.size #[.int .i64 0, .string ⟨#[]⟩, .int .i64 0, .int .i64 0] 31) := Lib.hid (Blk.new W _ _)
  cases b
  · obtain ⟨X, hX⟩ : ∃ X, s.extract f k = X := ⟨_, rfl⟩
    have TKX := TK (W.alloc TZ).drew k HR2.out HF.out.1 HF.out.2.2.1
    have XL := xs k
    rw [hX] at TKX XL
    have HX := Lib.hid hX
    clear TK xs hX
    unfold TZ at TKX
    go_wp2_with fail
    go_at_call 32
    refine TKX.mono ?_
    rintro e W1 ⟨rfl, sm⟩
    have BK1 := Lib.hid (BKN.out.keep (sm.below _))
    have RB1 := Lib.hid (sm.rb HR2.out)
    have GR1 : Hid ((W.alloc TZ).drew.grownBy W1 (some g)) := sm.grown _
    clear sm TKX
    go_wp2_with fail
    go_at_call 37
    refine (CL X XL W1).mono ?_
    rintro e W2 ⟨rfl, hb⟩
    have KB := Lib.hid hb
    have BK := Lib.hid (BK1.out.keep hb)
    clear hb
    go_wp2_with (first
      | (go_at_call 40; refine (IS X _).mono ?_; rintro e w' ⟨rfl, rfl⟩)
      | (refine wpList_store_row rfl 31 (.tmp 2) (.tmp 43) rfl W.heap.size #[.int .i64 5, .string X, .int .i64 0, .int .i64 0] rfl rfl 31 _ BK.out sizeT rfl (one4 _ _ _ _) ?_)
      | (refine wp_store_row 31 (.tmp 2) (.tmp 43) rfl W.heap.size #[.int .i64 5, .string X, .int .i64 0, .int .i64 0] rfl rfl 31 _ BK.out sizeT rfl (one4 _ _ _ _) ?_))
    refine bodyPost_ret (res_row_tmp (P := Tryd.prog) (fn := Tryd.f35) (p := 2) (u := 3) (ty := 31) rfl _ _ W.heap.size 31 _ (0, 0) _ _ rfl rfl (setRow_heap' _ _ _ _ _ BK.out) Tryd.underlying31 rfl sizeT) rfl ⟨?_, ?_, ?_⟩
    · show _ = Ending.returned (.tuple #[.agg #[.int .i64 5, .string (s.extract f k), .int .i64 0, .int .i64 0], .bool (LxM.isSign ((s.data.toList.drop f).take (k - f)))])
      rw [← exd, HX.out]
      rfl
    · exact Blk.grown (RB1.out.keep KB.out) (grown_row _ _ _) (by have := HB2.out; intro e; have := Option.some.inj e; omega)
    · exact sign_grown (GR1.out) KB.out (Nat.le_refl _)
  · obtain ⟨X, hX⟩ : ∃ X, s.extract f k2 = X := ⟨_, rfl⟩
    have HP2 := Lib.hid (Rb.put2 (W := (W.alloc TZ).drew) HR2.out k2)
    have TKX := TK ((W.alloc TZ).drew.setCell ⟨g, 2, none⟩ (.int .i64 (k2 : Int))) k2 HP2.out HF.out.2.1 HF.out.2.2.2
    have XL := xs k2
    rw [hX] at TKX XL
    have HX := Lib.hid hX
    clear TK xs hX
    unfold TZ at TKX
    go_wp2_with fail
    go_at_call 32
    refine TKX.mono ?_
    rintro e W1 ⟨rfl, sm⟩
    have BK1 := Lib.hid ((BKN.out.grown (grown_set ((W.alloc TZ).drew) g 2 (.int .i64 (k2 : Int))) (by have := HB2.out; intro e; have := Option.some.inj e; omega)).keep (sm.below _))
    have RB1 := Lib.hid (sm.rb HP2.out)
    have GR1 : Hid ((W.alloc TZ).drew.grownBy W1 (some g)) := (grown_set _ g 2 _).trans (sm.grown _)
    clear sm TKX
    go_wp2_with fail
    go_at_call 37
    refine (CL X XL W1).mono ?_
    rintro e W2 ⟨rfl, hb⟩
    have KB := Lib.hid hb
    have BK := Lib.hid (BK1.out.keep hb)
    clear hb
    go_wp2_with (first
      | (go_at_call 40; refine (IS X _).mono ?_; rintro e w' ⟨rfl, rfl⟩)
      | (refine wpList_store_row rfl 31 (.tmp 2) (.tmp 43) rfl W.heap.size #[.int .i64 5, .string X, .int .i64 0, .int .i64 0] rfl rfl 31 _ BK.out sizeT rfl (one4 _ _ _ _) ?_)
      | (refine wp_store_row 31 (.tmp 2) (.tmp 43) rfl W.heap.size #[.int .i64 5, .string X, .int .i64 0, .int .i64 0] rfl rfl 31 _ BK.out sizeT rfl (one4 _ _ _ _) ?_))
    refine bodyPost_ret (res_row_tmp (P := Tryd.prog) (fn := Tryd.f35) (p := 2) (u := 3) (ty := 31) rfl _ _ W.heap.size 31 _ (0, 0) _ _ rfl rfl (setRow_heap' _ _ _ _ _ BK.out) Tryd.underlying31 rfl sizeT) rfl ⟨?_, ?_, ?_⟩
    · show _ = Ending.returned (.tuple #[.agg #[.int .i64 5, .string (s.extract f k2), .int .i64 0, .int .i64 0], .bool (LxM.isSign ((s.data.toList.drop f).take (k2 - f)))])
      rw [← exd, HX.out]
      rfl
    · exact Blk.grown (RB1.out.keep KB.out) (grown_row _ _ _) (by have := HB2.out; intro e; have := Option.some.inj e; omega)
    · exact sign_grown (GR1.out) KB.out (Nat.le_refl _)
set_option maxHeartbeats 2000000 in
theorem sign_end (W : World) (g : Nat) (s : ByteArray) (f k : Nat) (tv : Value) (h : Rb W g s f k tv) (hk : k = f + 1) (hs : s.size ≤ 16384) (hlt : k = s.size) :
    Calls Tryd.prog 35 #[.pointer (some ⟨g, 0, none⟩)] W fun e W' => e = .returned (.tuple #[.agg #[.int .i64 5, .string (s.extract f k), .int .i64 0, .int .i64 0], .bool (LxM.isSign (s.extract f k).data.toList)]) ∧ Rb W' g s f k tv ∧ W.grownBy W' (some g) := by
  have h2 : Rb (W.alloc (.cells #[.int .i64 0, .string ⟨#[]⟩, .int .i64 0, .int .i64 0] 31)) g s f k tv := h.keep ((Below.refl _ W).alloc (Nat.le_refl _) _)
  obtain ⟨c0, c1, c2, c3, f1, f2, f3⟩ := h2.four
  have IS := fun (x : ByteArray) w => issign_any x w
  have CL := fun (x : ByteArray) (hx : x.size ≤ 16384) w => clone_any x w (by omega)
  have xs : ∀ b, (s.extract f b).size ≤ 16384 := fun b => by rw [ByteArray.size_extract]; omega
  have TK := fun W k (h : Rb W g s f k tv) (h1 : f ≤ k) (h2 : k ≤ s.size) => taken_any W g s f k tv h h1 h2 hs
  have hlt2 : decide (k < s.size) = false := decide_eq_false (by omega)
  have hlt3 : decide ((k : Int) < (s.size : Int)) = false := decide_eq_false (by omega)
  have HF := Lib.hid (show f ≤ k ∧ k ≤ s.size by omega)
  have HB2 := Lib.hid (show g < W.heap.size from h.lt)
  have HR2 := Lib.hid h2
  have BKN : Hid (Blk (W.alloc TZ).drew W.heap.size #[.int .i64 0, .string ⟨#[]⟩, .int .i64 0, .int .i64 0] 31) := Lib.hid (Blk.new W _ _)
  clear h h2 hk hs hlt
  go_enter Tryd.func35, Tryd.ntmps35
  obtain ⟨X, hX⟩ : ∃ X, s.extract f k = X := ⟨_, rfl⟩
  have TKX := fun W h => TK W k h HF.out.1 HF.out.2
  have XL := xs k
  simp only [hX] at TKX XL
  have HX := Lib.hid hX
  clear TK xs hX
  go_wp2_with (go_quiet (fail))
  go_at_call 32
  refine (TKX ((W.alloc (.cells #[.int .i64 0, .string ⟨#[]⟩, .int .i64 0, .int .i64 0] 31)).drewN _) HR2.out).mono ?_
  rintro e W1 ⟨rfl, sm0⟩
  have sm : Sm (W.alloc TZ).drew W1 := ⟨sm0.os, sm0.tape, sm0.output, sm0.heap⟩
  have BK1 := Lib.hid (BKN.out.keep (sm.below _))
  have RB1 := Lib.hid (sm.rb HR2.out)
  have GR1 : Hid ((W.alloc TZ).drew.grownBy W1 (some g)) := sm.grown _
  clear sm sm0 TKX
  go_wp2_with fail
  go_at_call 37
  refine (CL X XL W1).mono ?_
  rintro e W2 ⟨rfl, hb⟩
  have KB := Lib.hid hb
  have BK := Lib.hid (BK1.out.keep hb)
  clear hb
  go_wp2_with (first
    | (go_at_call 40; refine (IS X _).mono ?_; rintro e w' ⟨rfl, rfl⟩)
    | (refine wpList_store_row rfl 31 (.tmp 2) (.tmp 43) rfl W.heap.size #[.int .i64 5, .string X, .int .i64 0, .int .i64 0] rfl rfl 31 _ BK.out sizeT rfl (one4 _ _ _ _) ?_)
    | (refine wp_store_row 31 (.tmp 2) (.tmp 43) rfl W.heap.size #[.int .i64 5, .string X, .int .i64 0, .int .i64 0] rfl rfl 31 _ BK.out sizeT rfl (one4 _ _ _ _) ?_))
  refine bodyPost_ret (res_row_tmp (P := Tryd.prog) (fn := Tryd.f35) (p := 2) (u := 3) (ty := 31) rfl _ _ W.heap.size 31 _ (0, 0) _ _ rfl rfl (setRow_heap' _ _ _ _ _ BK.out) Tryd.underlying31 rfl sizeT) rfl ⟨?_, ?_, ?_⟩
  · show _ = Ending.returned (.tuple #[.agg #[.int .i64 5, .string (s.extract f k), .int .i64 0, .int .i64 0], .bool (LxM.isSign (s.extract f k).data.toList)])
    rw [HX.out]
    rfl
  · exact Blk.grown (RB1.out.keep KB.out) (grown_row _ _ _) (by have := HB2.out; intro e; have := Option.some.inj e; omega)
  · exact sign_grown (GR1.out) KB.out (Nat.le_refl _)
theorem sign_any (W : World) (g : Nat) (s : ByteArray) (f : Nat) (tv : Value) (h : Rb W g s f (f + 1) tv) (hk : f + 1 ≤ s.size) (hs : s.size ≤ 16384) :
    Calls Tryd.prog 35 #[.pointer (some ⟨g, 0, none⟩)] W fun e W' => ∃ t ok k', e = .returned (.tuple #[tval t, .bool ok]) ∧ t.at_ = 0 ∧ Rb W' g s f k' tv ∧ W.grownBy W' (some g) ∧ k' ≤ s.size ∧ f < k' ∧ Got (LxM.tkS (s.data.toList.drop f)) s t ok k' := by
  have hL : (s.data.toList.drop f).length = s.size - f := by simp
  have one : ∀ W', Rb W' g s f (f + 1) tv ∧ W.grownBy W' (some g) → ¬ (2 ≤ (s.data.toList.drop f).length ∧ LxM.isSign ((s.data.toList.drop f).take 2) = true) → ∃ t ok k', Ending.returned (.tuple #[.agg #[.int .i64 5, .string (s.extract f (f + 1)), .int .i64 0, .int .i64 0], .bool (LxM.isSign (s.extract f (f + 1)).data.toList)]) = .returned (.tuple #[tval t, .bool ok]) ∧ t.at_ = 0 ∧ Rb W' g s f k' tv ∧ W.grownBy W' (some g) ∧ k' ≤ s.size ∧ f < k' ∧ Got (LxM.tkS (s.data.toList.drop f)) s t ok k' := by
    intro W' ⟨h1, h2⟩ hno
    refine ⟨⟨5, (s.extract f (f + 1)).data.toList, 0, 0⟩, LxM.isSign (s.extract f (f + 1)).data.toList, f + 1, ?_, rfl, h1, h2, hk, Nat.lt_succ_self _, ?_⟩
    · unfold tval tcs
      rw [ba_eta]
      rfl
    · unfold Got LxM.tkS
      rw [if_neg hno, exd, Nat.add_sub_cancel_left]
      cases hq : LxM.isSign ((s.data.toList.drop f).take 1)
      · rfl
      · exact ⟨rfl, rfl, by simp⟩
  rcases Nat.lt_or_ge (f + 1) s.size with hlt | hge
  · refine (sign_two W g s f (f + 1) (f + 2) tv h rfl rfl hs hlt _ rfl).mono ?_
    rintro e W' ⟨rfl, h1, h2⟩
    have e2 : (s.extract f (f + 2)).data.toList = (s.data.toList.drop f).take 2 := by rw [exd, Nat.add_sub_cancel_left]
    cases hb : LxM.isSign (s.extract f (f + 2)).data.toList
    · rw [hb] at h1
      simp only [Bool.false_eq_true, if_false] at h1 ⊢
      exact one W' ⟨h1, h2⟩ (by rw [← e2, hb]; simp)
    · rw [hb] at h1
      simp only [if_true] at h1 ⊢
      refine ⟨⟨5, (s.extract f (f + 2)).data.toList, 0, 0⟩, LxM.isSign (s.extract f (f + 2)).data.toList, f + 2, ?_, rfl, h1, h2, hlt, by omega, ?_⟩
      · unfold tval tcs
        rw [ba_eta]
        rfl
      · unfold Got LxM.tkS
        rw [e2] at hb
        rw [if_pos ⟨by omega, hb⟩]
        rw [e2, hb]
        exact ⟨rfl, rfl, by simp⟩
  · refine (sign_end W g s f (f + 1) tv h rfl hs (by omega)).mono ?_
    rintro e W' ⟨rfl, h1⟩
    exact one W' h1 (by rw [hL]; omega)
end Go.Proofs.YtikbgkndfmcfhaaDoor
