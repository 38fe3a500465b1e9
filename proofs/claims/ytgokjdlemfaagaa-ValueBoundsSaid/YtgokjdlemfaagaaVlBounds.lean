/- The walk of ValueBounds. -/
import Derived.Test.YtgokjdlemfaagaaVlBb
import Derived.Test.YtgokjdlemfaagaaTail
namespace Go.Proofs.Ytgokjdlemfaagaa
open Go.RowKit
set_option linter.unusedVariables false
theorem run_min_is (f g a : Int) (h : min f g = a) : ∀ (W : World) (ts : Array TypeId) (t : TypeId), (Builtin.min_ ts t #[.int .i64 f, .int .i64 g]).run Try.prog W = .ok (.int .i64 a) W := fun W ts t => by
  rw [run_min_int2, ← h]
  congr 2
  split <;> omega
/-- The worlds behind the loop: the three boxes hold what they held. -/
def Tb (w wr W : World) (k : Nat) (vg : Value) : Prop := Below wr.heap.size wr W ∧
  Six W (w.heap.size + 1) (.int .i64 1) (.string (zs (4095 + k))) (.slice none 0 0) (.slice none 0 0) (.slice none 0 0) (.slice none 0 0) ∧
  Six W (w.heap.size + 1 + 1 + 1) (.int .i64 2) (.string ⟨#[]⟩) (.slice (some ⟨w.heap.size + 1 + 1, 0, none⟩) (999 + k) (999 + k)) (.slice none 0 0) (.slice none 0 0) (.slice none 0 0) ∧
  Six W (w.heap.size + 1 + 1 + 1 + 1) (.int .i64 2) (.string ⟨#[]⟩) vg (.slice none 0 0) (.slice none 0 0) (.slice none 0 0)
theorem Tb.of {w wr W : World} {k : Nat} {vg : Value} (B : BB w wr k vg) (h : Below wr.heap.size wr W) : Tb w wr W k vg :=
  ⟨h, Blk.six (B.t.below h), Blk.six (B.l.below h), Blk.six (B.g.below h)⟩
theorem tb_call {w wr W : World} {k : Nat} {vg : Value} {f : FuncId} {args : Array Value} {E : Ending} (B : BB w wr k vg) (h : Below wr.heap.size wr W)
    (c : Calls Try.prog f args W fun e w' => e = E ∧ Below W.heap.size W w') : Calls Try.prog f args W fun e w' => e = E ∧ Tb w wr w' k vg :=
  c.mono fun e w' ⟨he, hb⟩ => ⟨he, Tb.of B (below_then h hb)⟩
theorem row_next {W : World} {b g c j k : Nat} {sm : ByteArray} {p : Addr} (own : W.ownsRow (b + 5) 9 1 (.slice (some ⟨g, 0, none⟩) (j + 1) c) (j + 1) (lcells (bg k j) ++ [.string sm])) (e : bg k (j + 1) = bg k j ++ [sm]) (hp : p.block < b + 5 := by omega) (u : Value) :
    (W.setCell p u).ownsRow (b + 5) 9 1 (.slice (some ⟨g, 0, none⟩) (j + 1) c) (j + 1) (lcells (bg k (j + 1))) := by
  rw [e]
  have : lcells (bg k j ++ [sm]) = lcells (bg k j) ++ [.string sm] := by simp [lcells, cells1]
  rw [this]
  exact row_aside own hp u
set_option maxRecDepth 20000 in
set_option maxHeartbeats 4000000 in
theorem bounds_walk (a : Int) (w : World) :
    Calls Try.prog 4 #[.int .i64 a] w fun e w' => e = .returned (.bool true) ∧ Below w.heap.size w w' := by
  obtain ⟨k, hk3, ek⟩ := mod_lt a 3 (by decide) (by decide)
  have ek3 : wrap64 ((IntKind.u64.wrap a).tmod 3) = (k : Int) := ek
  have hk : k ≤ 2 := by omega
  have kq : (k : Int) ≤ 2 := by omega
  have kp : (0 : Int) ≤ (k : Int) := by omega
  have q1 : wrap64 (4095 + (k : Int)) = 4095 + (k : Int) := w64_small _ (by omega) (by omega)
  have q2 : wrap64 (999 + (k : Int)) = 999 + (k : Int) := w64_small _ (by omega) (by omega)
  have q3 : wrap64 (262127 + (k : Int)) = 262127 + (k : Int) := w64_small _ (by omega) (by omega)
  have mb1 : ∀ W, (Instr.makeSlice 31 (.int .i64 (4095 + (k : Int))) (.int .i64 (4095 + (k : Int)))).run Try.prog W = .ok (.slice (some ⟨W.heap.size, 0, none⟩) (4095 + k) (4095 + k)) (W.alloc (.cells ((List.replicate (4095 + k) (0 : UInt8)).map bv).toArray 5)) := fun W => by
    have := made_bytes (4095 + k) W (by omega)
    rw [show (((4095 + k : Nat) : Int)) = 4095 + (k : Int) by omega] at this
    exact this
  have kv1 : (convert 31 9 (.slice (some ⟨w.heap.size, 0, none⟩) (4095 + k) (4095 + k))).run Try.prog (w.alloc (.cells ((List.replicate (4095 + k) (0 : UInt8)).map bv).toArray 5)) = .ok (.string (zs (4095 + k))) (w.alloc (.cells ((List.replicate (4095 + k) (0 : UInt8)).map bv).toArray 5)) := zs_conv w (4095 + k)
  have mt1 : ∀ W, (Instr.makeSlice 24 (.int .i64 (999 + (k : Int))) (.int .i64 (999 + (k : Int)))).run Try.prog W = .ok (.slice (some ⟨W.heap.size, 0, none⟩) (999 + k) (999 + k)) (W.alloc (.cells (lcells (List.replicate (999 + k) ⟨#[]⟩)).toArray 9)) := fun W => by
    have := made_texts (999 + k) W (by omega)
    rw [show (((999 + k : Nat) : Int)) = 999 + (k : Int) by omega] at this
    exact this
  have ST := Lib.hid (fun z zt => start_bb w k z zt)
  obtain ⟨Z1, hZ1⟩ : ∃ Z1, ((List.replicate (4095 + k) (0 : UInt8)).map bv).toArray = Z1 := ⟨_, rfl⟩
  obtain ⟨L1, hL1⟩ : ∃ L1, (lcells (List.replicate (999 + k) ⟨#[]⟩)).toArray = L1 := ⟨_, rfl⟩
  obtain ⟨s1, hs1⟩ : ∃ s1, zs (4095 + k) = s1 := ⟨_, rfl⟩
  rw [hZ1] at mb1 kv1
  rw [hs1] at kv1
  rw [hL1] at mt1
  simp only [hL1, hs1] at ST
  have HS1 := Lib.hid hs1
  have HL1 := Lib.hid hL1
  have HK := Lib.hid hk
  clear ek hk3 hk
  clear hZ1 hL1 hs1
  go_enter Try.func4, Try.ntmps4
  go_wp2_with fail
  simp only [ek3]
  go_loopw [7] (fun lf wr => ∃ (j : Nat) (vg : Value), j ≤ 64 ∧ lf = .int .i64 (bl k j : Int) ∧ BB w wr k vg ∧ wr.ownsRow (w.heap.size + 5) 9 1 vg j (lcells (bg k j))) (fun lf _ => (intOf lf).toNat)
  case atStart => exact ⟨0, _, Nat.zero_le _, by have := HK.out; simp [bl], ST.out _ _, World.ownsRow_nil _ _ _ _⟩
  case round =>
    obtain ⟨j, vg, hj, rfl, bb, row⟩ := hrel
    by_cases hlt : j < 64
    · have hL := bl_next k j hlt HK.out
      have hm9 := bm_le k j HK.out
      have hmin := bm_min k j hlt HK.out
      have hD := bl_rest k j hlt
      have bn := Lib.hid (bg_next k j)
      obtain ⟨D, eD⟩ : ∃ D, bl k (j + 1) = D := ⟨_, rfl⟩
      obtain ⟨m, em⟩ : ∃ m, bm k j = m := ⟨_, rfl⟩
      rw [eD, em] at hL hmin
      rw [eD] at hD
      rw [em] at hm9 bn
      obtain ⟨L, eL⟩ : ∃ L : Int, (bl k j : Int) = L := ⟨_, rfl⟩
      have hL' : L = 16 + (m : Int) + (D : Int) := by omega
      rw [eL]
      obtain ⟨M1, eM⟩ : ∃ M1 : Int, L - 16 = M1 := ⟨_, rfl⟩
      have w1 : wrap64 (L - 16) = M1 := by rw [w64_small _ (by omega) (by unfold bl at eL; split at eL <;> omega)]; exact eM
      have w2' : wrap64 (M1 - (m : Int)) = (D : Int) := by rw [w64_small _ (by omega) (by unfold bl at eL; split at eL <;> omega)]; omega
      have w3 : IntKind.i64.wrap (L - 16) = M1 := by rw [i64w]; exact w1
      have l0 : 0 < L := by omega
      have mn : ∀ W ts t, (Builtin.min_ ts t #[.int .i64 M1, .int .i64 4096]).run Try.prog W = .ok (.int .i64 (m : Int)) W := by
        exact run_min_is M1 4096 (m : Int) (by omega)
      have mb : ∀ W, (Instr.makeSlice 31 (.int .i64 (m : Int)) (.int .i64 (m : Int))).run Try.prog W = .ok (.slice (some ⟨W.heap.size, 0, none⟩) m m) (W.alloc (.cells ((List.replicate m (0 : UInt8)).map bv).toArray 5)) := fun W => made_bytes m W (by omega)
      have kv : (convert 31 9 (.slice (some ⟨wr.heap.size, 0, none⟩) m m)).run Try.prog (wr.alloc (.cells ((List.replicate m (0 : UInt8)).map bv).toArray 5)).drew = .ok (.string (zs m)) (wr.alloc (.cells ((List.replicate m (0 : UInt8)).map bv).toArray 5)).drew := zs_conv wr.drew m
      obtain ⟨Zm, hZm⟩ : ∃ Zm, ((List.replicate m (0 : UInt8)).map bv).toArray = Zm := ⟨_, rfl⟩
      obtain ⟨sm, hsm⟩ : ∃ sm, zs m = sm := ⟨_, rfl⟩
      rw [hZm] at mb kv
      rw [hsm] at kv bn
      obtain ⟨-, -, x2, -, -, -⟩ := bb.g.six
      have f2 := bb.g.ice 2
      have lg := bb.g.lt
      have xa := fun o => cell_more o x2
      have xb := fun o1 o2 => cell_more o2 (cell_more o1 x2)
      have B0 := Lib.hid bb
      have R0 := Lib.hid row
      have HJ := Lib.hid hlt
      have LP : Hid (0 < L) := l0
      have ED := Lib.hid eD
      have EL := Lib.hid hL'
      clear hL hm9 hmin eM hZm hsm bb row eD em eL hL' hj
      rcases hD with hD | hD
      · have d0 : (D : Int) ≤ 0 := by omega
        clear hD
        go_wp2_with fail
        refine wp_region_tail_list (S := fun W => W.cell? ⟨w.heap.size + 1 + 1 + 1 + 1, 2, none⟩ = some vg) (by simp) (by kernel_rfl) (by kernel_rfl) x2 (fun hHeld => ?_)
        simp only [List.dropLast_cons_cons, List.dropLast_singleton, List.getLast_cons_cons, List.getLast_singleton, List.length_cons, List.length_nil, Nat.reduceAdd]
        refine wpAnyH_take (i := 0) (v := ?_) rfl (by kernel_rfl) (by kernel_rfl) (by kernel_rfl) (fun _ _ _ h => h) (Or.inl ⟨by rfl, ?_⟩) hHeld ?_
        rotate_left
        · intro W hSw; go_simp; try with_reducible rfl
        refine wpAnyH_take (i := 1) (v := ?_) rfl (by kernel_rfl) (by kernel_rfl) (by kernel_rfl) (fun _ _ _ h => h) (Or.inl ⟨by rfl, ?_⟩) hHeld ?_
        rotate_left
        · intro W hSw; go_simp; try with_reducible rfl
        refine wpAnyH_take (i := 2) (v := ?_) rfl (by kernel_rfl) (by kernel_rfl) (by kernel_rfl) (fun _ _ _ h => h) (Or.inl ⟨by rfl, ?_⟩) hHeld ?_
        rotate_left
        · intro W hSw; go_simp; try with_reducible rfl
        refine wpAnyH_ready (rs := [3]) (by kernel_rfl) (by simp) ?_
        refine AllReadyH.cons rfl (fun K hK => ?_) AllReadyH.nil
        go_simp
        refine hK.out _ _ (xa _) (fun hHeld1 => ?_)
        clear hK K hHeld
        refine wpAnyH_ready (rs := [4]) (by kernel_rfl) (by simp) ?_
        refine AllReadyH.cons rfl (fun K hK => ?_) AllReadyH.nil
        go_simp
        refine hK.out _ _ (xa _) (fun hHeld2 => ?_)
        clear hK K hHeld1
        refine wpAnyH_ready (rs := [5]) (by kernel_rfl) (by simp) ?_
        refine AllReadyH.cons rfl (fun K hK => ?_) AllReadyH.nil
        go_simp
        refine hK.out _ _ (xb _ _) (fun hHeld3 => ?_)
        clear hK K hHeld2
        refine wpAnyH_ready (rs := [6]) (by kernel_rfl) (by simp) ?_
        refine AllReadyH.cons rfl (fun K hK => ?_) AllReadyH.nil
        refine step_append_one rfl (.tmp 45) (.tmp 49) rfl (w.heap.size + 5) _ j _ rfl (World.ownsRow.alloc (World.ownsRow.alloc R0.out _) _) ⟨wr.heap.size + 1, 0, none⟩ rfl (.string sm) (cell_two _ _ _ _ _ rfl) rfl (by have := HJ.out; omega) ((B0.out.alloc _).alloc _).room ?_
        intro v2 w2 own2 g2
        obtain ⟨gS, cS, rfl⟩ := ownsRow_succ own2
        have g3 : ((wr.alloc (.cells Zm 5)).alloc (.cells #[.string sm] 9)).drew.grownBy w2 vg.ownBlock := g2
        have B2 := (((B0.out.alloc (.cells Zm 5)).alloc (.cells #[.string sm] 9)).drew).grown g3 (row_base R0.out)
        obtain ⟨-, -, y2, -, -, -⟩ := B2.g.six
        have h2 := B2.g.ice 2
        have BB2 := Lib.hid B2
        have OW := Lib.hid own2
        clear B2 own2 g2 g3
        refine hK.out _ _ y2 (fun hHeld4 => ?_)
        clear hK K hHeld3
        refine wpAnyH_take (i := 7) (v := ?_) rfl (by kernel_rfl) (by kernel_rfl) (by kernel_rfl) (fun _ _ _ h => h) (Or.inl ⟨by rfl, ?_⟩) hHeld4 ?_
        rotate_left
        · intro W hSw; go_simp; try with_reducible rfl
        refine wpAnyH_done (by kernel_rfl) ?_ _
        refine behind_normal (wpOp_step rfl (fun K hK => ?_))
        go_simp
        refine hK _ _ ?_
        clear hK K hHeld4
        go_wp2_with fail
        go_roundw
        case rel =>
          exact ⟨j + 1, _, HJ.out, by rw [w2', ED.out], BB2.out.put _, row_next OW.out bn.out (by show w.heap.size + 1 + 1 + 1 + 1 < _; omega) _⟩
        case measure => have := EL.out; have := LP.out; simp [RowKit.intOf, w2']; omega
      · have d0 : 0 < (D : Int) := by omega
        have d1 : 16 ≤ (D : Int) := by omega
        clear hD
        go_wp2_with fail
        refine wp_region_tail_list (S := fun W => W.cell? ⟨w.heap.size + 1 + 1 + 1 + 1, 2, none⟩ = some vg) (by simp) (by kernel_rfl) (by kernel_rfl) x2 (fun hHeld => ?_)
        simp only [List.dropLast_cons_cons, List.dropLast_singleton, List.getLast_cons_cons, List.getLast_singleton, List.length_cons, List.length_nil, Nat.reduceAdd]
        refine wpAnyH_take (i := 0) (v := ?_) rfl (by kernel_rfl) (by kernel_rfl) (by kernel_rfl) (fun _ _ _ h => h) (Or.inl ⟨by rfl, ?_⟩) hHeld ?_
        rotate_left
        · intro W hSw; go_simp; try with_reducible rfl
        refine wpAnyH_take (i := 1) (v := ?_) rfl (by kernel_rfl) (by kernel_rfl) (by kernel_rfl) (fun _ _ _ h => h) (Or.inl ⟨by rfl, ?_⟩) hHeld ?_
        rotate_left
        · intro W hSw; go_simp; try with_reducible rfl
        refine wpAnyH_take (i := 2) (v := ?_) rfl (by kernel_rfl) (by kernel_rfl) (by kernel_rfl) (fun _ _ _ h => h) (Or.inl ⟨by rfl, ?_⟩) hHeld ?_
        rotate_left
        · intro W hSw; go_simp; try with_reducible rfl
        refine wpAnyH_ready (rs := [3]) (by kernel_rfl) (by simp) ?_
        refine AllReadyH.cons rfl (fun K hK => ?_) AllReadyH.nil
        go_simp
        refine hK.out _ _ (xa _) (fun hHeld1 => ?_)
        clear hK K hHeld
        refine wpAnyH_ready (rs := [4]) (by kernel_rfl) (by simp) ?_
        refine AllReadyH.cons rfl (fun K hK => ?_) AllReadyH.nil
        go_simp
        refine hK.out _ _ (xa _) (fun hHeld2 => ?_)
        clear hK K hHeld1
        refine wpAnyH_ready (rs := [5]) (by kernel_rfl) (by simp) ?_
        refine AllReadyH.cons rfl (fun K hK => ?_) AllReadyH.nil
        go_simp
        refine hK.out _ _ (xb _ _) (fun hHeld3 => ?_)
        clear hK K hHeld2
        refine wpAnyH_ready (rs := [6]) (by kernel_rfl) (by simp) ?_
        refine AllReadyH.cons rfl (fun K hK => ?_) AllReadyH.nil
        refine step_append_one rfl (.tmp 45) (.tmp 49) rfl (w.heap.size + 5) _ j _ rfl (World.ownsRow.alloc (World.ownsRow.alloc R0.out _) _) ⟨wr.heap.size + 1, 0, none⟩ rfl (.string sm) (cell_two _ _ _ _ _ rfl) rfl (by have := HJ.out; omega) ((B0.out.alloc _).alloc _).room ?_
        intro v2 w2 own2 g2
        obtain ⟨gS, cS, rfl⟩ := ownsRow_succ own2
        have g3 : ((wr.alloc (.cells Zm 5)).alloc (.cells #[.string sm] 9)).drew.grownBy w2 vg.ownBlock := g2
        have B2 := (((B0.out.alloc (.cells Zm 5)).alloc (.cells #[.string sm] 9)).drew).grown g3 (row_base R0.out)
        obtain ⟨-, -, y2, -, -, -⟩ := B2.g.six
        have h2 := B2.g.ice 2
        have BB2 := Lib.hid B2
        have OW := Lib.hid own2
        clear B2 own2 g2 g3
        refine hK.out _ _ y2 (fun hHeld4 => ?_)
        clear hK K hHeld3
        refine wpAnyH_take (i := 7) (v := ?_) rfl (by kernel_rfl) (by kernel_rfl) (by kernel_rfl) (fun _ _ _ h => h) (Or.inl ⟨by rfl, ?_⟩) hHeld4 ?_
        rotate_left
        · intro W hSw; go_simp; try with_reducible rfl
        refine wpAnyH_done (by kernel_rfl) ?_ _
        refine behind_normal (wpOp_step rfl (fun K hK => ?_))
        go_simp
        refine hK _ _ ?_
        clear hK K hHeld4
        go_wp2_with fail
        go_roundw
        case rel =>
          exact ⟨j + 1, _, HJ.out, by rw [w2', ED.out], BB2.out.put _, row_next OW.out bn.out (by show w.heap.size + 1 + 1 + 1 + 1 < _; omega) _⟩
        case measure => have := EL.out; have := LP.out; simp [RowKit.intOf, w2']; omega
    · have ej : j = 64 := by omega
      subst ej
      have e0 : (bl k 64 : Int) = 0 := rfl
      rw [e0]
      have B0 := Lib.hid bb
      have R0 := Lib.hid row
      have kk := HK.out
      have OBB := Lib.hid bb.below
      have MT := fun W (b : Below wr.heap.size wr W) => may_any (fun _ => true) W wr.heap.size _ (xt k) (vr_text W wr.heap.size (zs (4095 + k))) (ok_text _ (zs (4095 + k)) (by rw [zs_size]; omega)) b.size
      have ML := fun W (b : Below wr.heap.size wr W) => may_any (fun _ => true) W wr.heap.size _ (xl k) ((vr_xl B0.out).below b) (ok_l _ k kk) b.size
      have MG := fun W (b : Below wr.heap.size wr W) => may_any (fun _ => true) W wr.heap.size _ (xg k) ((vr_xg R0.out).below b) (ok_g _ k kk) b.size
      have ME := fun W (b : Below wr.heap.size wr W) => may_any (fun _ => true) W wr.heap.size _ xe (vr_xe W wr.heap.size) (ok_e _) b.size
      have SG := fun W (b : Below wr.heap.size wr W) => size_any W wr.heap.size _ (xg k) ((vr_xg R0.out).below b) (.inr rfl) b.size (ok_g (fun _ => true) k kk).list (ok_g (fun _ => true) k kk).fields (ok_g (fun _ => true) k kk).scores (ok_g (fun _ => true) k kk).points (ok_g (fun _ => true) k kk).size
      rw [may_xt _ _ kk] at MT
      rw [may_xl _ _ kk] at ML
      rw [may_xg _ _ kk] at MG
      rw [may_xe] at ME
      rw [size_g k kk, show (((262143 + k : Nat) : Int)) = 262143 + (k : Int) by omega] at SG
      unfold vagg at MT
      have q4 : wrap64 (262143 + (k : Int)) = 262143 + (k : Int) := w64_small _ (by omega) (by omega)
      have LEN : Hid (∃ g c, vg = .slice (some ⟨g, 0, none⟩) 64 c) := by
        obtain ⟨g, c, e, _⟩ := row_shape R0.out (by omega)
        exact ⟨g, c, e⟩
      clear bb row hlt e0 hj kk mb1 mt1 kv1 q1 q2 q3 HL1 HS1 ST
      rcases (by omega : k < 2 ∨ ¬ k < 2) with k2 | k2
      · have k2i : (k : Int) < 2 := by omega
        rw [decide_eq_true k2] at MT ML MG
        clear k2
        go_wp2_with fail
        go_at_call 5
        refine (tb_call B0.out (Below.refl _ _) (told_any _)).mono ?_
        rintro e w1 ⟨rfl, t1, ⟨a0, a1, a2, a3, a4, a5⟩, ⟨b0, b1, b2, b3, b4, b5⟩, ⟨d0, d1, d2, d3, d4, d5⟩⟩
        go_wp2_with fail
        go_at_call 6
        refine (tb_call B0.out t1 (MT _ t1)).mono ?_
        rintro e w2 ⟨rfl, t2, ⟨a0, a1, a2, a3, a4, a5⟩, ⟨b0, b1, b2, b3, b4, b5⟩, ⟨d0, d1, d2, d3, d4, d5⟩⟩
        go_wp2_with fail
        go_at_call 6
        refine (tb_call B0.out t2 (ML _ t2)).mono ?_
        rintro e w3 ⟨rfl, t3, ⟨a0, a1, a2, a3, a4, a5⟩, ⟨b0, b1, b2, b3, b4, b5⟩, ⟨d0, d1, d2, d3, d4, d5⟩⟩
        go_wp2_with fail
        go_at_call 8
        refine (tb_call B0.out t3 (SG _ t3)).mono ?_
        rintro e w4 ⟨rfl, t4, ⟨a0, a1, a2, a3, a4, a5⟩, ⟨b0, b1, b2, b3, b4, b5⟩, ⟨d0, d1, d2, d3, d4, d5⟩⟩
        go_wp2_with fail
        go_at_call 6
        refine (tb_call B0.out t4 (MG _ t4)).mono ?_
        rintro e w5 ⟨rfl, t5, ⟨a0, a1, a2, a3, a4, a5⟩, ⟨b0, b1, b2, b3, b4, b5⟩, ⟨d0, d1, d2, d3, d4, d5⟩⟩
        go_wp2_with fail
        go_at_call 6
        refine (tb_call B0.out t5 (ME _ t5)).mono ?_
        rintro e w6 ⟨rfl, t6, ⟨a0, a1, a2, a3, a4, a5⟩, ⟨b0, b1, b2, b3, b4, b5⟩, ⟨d0, d1, d2, d3, d4, d5⟩⟩
        go_wp2_with fail
        go_ret
        exact ⟨by simp <;> omega, OBB.out.trans (t6.mono OBB.out.size)⟩
      · have k2i : (2 : Int) ≤ (k : Int) := by omega
        rw [decide_eq_false k2] at MT ML MG
        clear k2
        go_wp2_with fail
        go_at_call 5
        refine (tb_call B0.out (Below.refl _ _) (told_any _)).mono ?_
        rintro e w1 ⟨rfl, t1, ⟨a0, a1, a2, a3, a4, a5⟩, ⟨b0, b1, b2, b3, b4, b5⟩, ⟨d0, d1, d2, d3, d4, d5⟩⟩
        go_wp2_with fail
        go_at_call 6
        refine (tb_call B0.out t1 (MT _ t1)).mono ?_
        rintro e w2 ⟨rfl, t2, ⟨a0, a1, a2, a3, a4, a5⟩, ⟨b0, b1, b2, b3, b4, b5⟩, ⟨d0, d1, d2, d3, d4, d5⟩⟩
        go_wp2_with fail
        go_at_call 6
        refine (tb_call B0.out t2 (ML _ t2)).mono ?_
        rintro e w3 ⟨rfl, t3, ⟨a0, a1, a2, a3, a4, a5⟩, ⟨b0, b1, b2, b3, b4, b5⟩, ⟨d0, d1, d2, d3, d4, d5⟩⟩
        go_wp2_with fail
        go_at_call 8
        refine (tb_call B0.out t3 (SG _ t3)).mono ?_
        rintro e w4 ⟨rfl, t4, ⟨a0, a1, a2, a3, a4, a5⟩, ⟨b0, b1, b2, b3, b4, b5⟩, ⟨d0, d1, d2, d3, d4, d5⟩⟩
        go_wp2_with fail
        go_at_call 6
        refine (tb_call B0.out t4 (MG _ t4)).mono ?_
        rintro e w5 ⟨rfl, t5, ⟨a0, a1, a2, a3, a4, a5⟩, ⟨b0, b1, b2, b3, b4, b5⟩, ⟨d0, d1, d2, d3, d4, d5⟩⟩
        go_wp2_with fail
        go_at_call 6
        refine (tb_call B0.out t5 (ME _ t5)).mono ?_
        rintro e w6 ⟨rfl, t6, ⟨a0, a1, a2, a3, a4, a5⟩, ⟨b0, b1, b2, b3, b4, b5⟩, ⟨d0, d1, d2, d3, d4, d5⟩⟩
        go_wp2_with fail
        go_ret
        exact ⟨by simp <;> omega, OBB.out.trans (t6.mono OBB.out.size)⟩
end Go.Proofs.Ytgokjdlemfaagaa
