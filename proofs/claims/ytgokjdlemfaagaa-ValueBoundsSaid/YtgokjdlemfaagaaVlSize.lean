/- Package value: Size. -/
import Derived.Test.YtgokjdlemfaagaaVlRise
import Derived.Deep.Cut
import Derived.Deep.RegionHeld3
namespace Go.Proofs.Ytgokjdlemfaagaa
open Go.RowKit Go.Shelf
set_option linter.unusedVariables false
attribute [local go_sem] Oper.semAt_some
theorem vlsum_snoc (pre : List ByteArray) (x : ByteArray) : Vl.sum (pre ++ [x]) = Vl.sum pre + x.size := by rw [Vl.sum_append]; simp [Vl.sum]
theorem vlsum_prefix {pre xs : List ByteArray} (h : pre <+: xs) : Vl.sum pre ≤ Vl.sum xs := by
  obtain ⟨r, rfl⟩ := h
  rw [Vl.sum_append]; omega
/-- A block that is just these cells. -/
def Blk (W : World) (b : Nat) (cs : Array Value) (t : TypeId) : Prop := W.heap[b]? = some (.cells cs t (0, 0))
theorem Blk.below {W W' : World} {b : Nat} {cs : Array Value} {t : TypeId} (h : Blk W b cs t) (hb : Below W.heap.size W W') : Blk W' b cs t := (hb.block b (Array.getElem?_eq_some_iff.1 h).1).trans h
theorem Blk.aside {W : World} {b : Nat} {cs : Array Value} {t : TypeId} (h : Blk W b cs t) {p : Addr} (hb : b ≠ p.block) (u : Value) : Blk (W.setCell p u) b cs t := (Below.heap_setCell _ _ _ _ hb).trans h
theorem Blk.new (W : World) (cs : Array Value) (t : TypeId) : Blk (W.alloc (.cells cs t)) W.heap.size cs t := World.alloc_heap_new W _
theorem Blk.six {W : World} {b : Nat} {v0 v1 v2 v3 v4 v5 : Value} {t : TypeId} (h : Blk W b #[v0, v1, v2, v3, v4, v5] t) :
    W.cell? ⟨b, 0, none⟩ = some v0 ∧ W.cell? ⟨b, 1, none⟩ = some v1 ∧ W.cell? ⟨b, 2, none⟩ = some v2 ∧ W.cell? ⟨b, 3, none⟩ = some v3 ∧ W.cell? ⟨b, 4, none⟩ = some v4 ∧ W.cell? ⟨b, 5, none⟩ = some v5 := by
  have h : W.heap[b]? = _ := h
  simp [World.cell?, h]
theorem i64w (n : Int) : IntKind.i64.wrap n = wrap64 n := by rw [IntKind.wrap_i64]; unfold wrap64; omega
theorem w64_small (x : Int) (h : 0 ≤ x) (k : x < 4611686018427387904) : wrap64 x = x := by unfold wrap64; omega
theorem w64_add (x y : Int) : wrap64 (wrap64 x + y) = wrap64 (x + y) := by unfold wrap64; omega
theorem size_mid (w : World) (cs : Array Value) (t : TypeId) (w' : World) (v : Value) (hb : Below ((w.alloc (.cells cs t)).alloc (.cells #[.int .i64 16] 3)).drew.heap.size ((w.alloc (.cells cs t)).alloc (.cells #[.int .i64 16] 3)).drew w') :
    w'.cell? ⟨w.heap.size + 1, 0, none⟩ = some (.int .i64 16) ∧ w'.frozen? ⟨w.heap.size + 1, 0, none⟩ = false ∧
    Blk (w'.setCell ⟨w.heap.size + 1, 0, none⟩ v) w.heap.size cs t ∧ Boxed (w'.setCell ⟨w.heap.size + 1, 0, none⟩ v) (w.heap.size + 1) 3 v ∧ Below w.heap.size w (w'.setCell ⟨w.heap.size + 1, 0, none⟩ v) := by
  have k0 : Blk ((w.alloc (.cells cs t)).alloc (.cells #[.int .i64 16] 3)).drew w.heap.size cs t := (Below.heap_alloc _ _ _ (by simp)).trans (World.alloc_heap_new w _)
  have k1 : Boxed ((w.alloc (.cells cs t)).alloc (.cells #[.int .i64 16] 3)).drew (w.heap.size + 1) 3 (.int .i64 16) := by
    have := World.alloc_heap_new (w.alloc (.cells cs t)) (.cells #[.int .i64 16] 3)
    rw [World.size_alloc] at this
    exact this
  have k2 : Boxed w' (w.heap.size + 1) 3 (.int .i64 16) := (hb.block _ (Array.getElem?_eq_some_iff.1 k1).1).trans k1
  have b0 : Below w.heap.size w ((w.alloc (.cells cs t)).alloc (.cells #[.int .i64 16] 3)).drew := (((Below.refl _ w).alloc (Nat.le_refl _) _).alloc (by simp) _).drew
  exact ⟨k2.cell, k2.frozen, (k0.below hb).aside (by simp) _, k2.set _, (below_then b0 hb).setCell (p := ⟨w.heap.size + 1, 0, none⟩) (by simp) _⟩

set_option maxRecDepth 100000 in
set_option maxHeartbeats 4000000 in
theorem size2 (w : World) (B : Nat) (v : Value) (x : Vl) (h : Vr w B v x) (hkd : x.kind = 2) (hB : B ≤ w.heap.size) (l2 : x.list.length ≤ 1048576) (l3 : x.fields.length ≤ 1048576) (l4 : x.scores.length ≤ 1048576) (l5 : x.points.length ≤ 1048576) (hz : x.size < 1099511627776) :
    Calls Try.prog 8 #[v] w fun e w' => e = .returned (.int .i64 (x.size : Int)) ∧ Below w.heap.size w w' := by
  have LN := fun W (b : Below w.heap.size w W) => len_any W B v x (h.below (b.mono hB))
  have TX := fun W (b : Below w.heap.size w W) => texts_any W B v x (h.below (b.mono hB)) (Nat.le_trans hB b.size) l2 l3 l4 l5
  have hsz : x.size = 16 + 16 * x.len + Vl.sum x.texts := by unfold Vl.size Vl.many; rw [hkd]; rfl
  have HSZ := Lib.hid hsz
  have HZ := Lib.hid hz
  clear hsz hz
  obtain ⟨A2, c2, A3, c3, A4, c4, A5, c5, rfl, -⟩ := h.shows
  clear h
  obtain ⟨L, hL⟩ : ∃ L, x.len = L := ⟨_, rfl⟩
  simp only [hL] at LN HSZ
  obtain ⟨txs, htx⟩ : ∃ txs, x.texts = txs := ⟨_, rfl⟩
  simp only [htx] at TX HSZ
  obtain ⟨SZ, hSZ⟩ : ∃ SZ, x.size = SZ := ⟨_, rfl⟩
  simp only [hSZ] at HZ HSZ ⊢
  obtain ⟨kd, s, ls, fs, ss, ps⟩ := x
  simp only at hkd LN TX l2 l3 l4 l5 ⊢
  generalize ls.length = n2 at *
  generalize fs.length = n3 at *
  generalize ss.length = n4 at *
  generalize ps.length = n5 at *
  clear hL htx hSZ l2 l3 l4 l5
  subst hkd
  refine (callsIn_wide (n := 8)).1 ?_
  refine callsIn_of_wp_marks Try.func8 rfl trivial ?_ rfl
  simp only [Try.ntmps8, List.size_toArray, List.length_cons, List.length_nil, Nat.reduceAdd, Nat.reduceSub, Array.replicate_succ, Array.replicate_zero, List.push_toArray, List.append_toArray, List.nil_append, List.cons_append]
  refine wpIn_wide.2 ?_
  have m2 : Hid (IntKind.i64.wrap (16 + IntKind.i64.wrap (16 * (L : Int))) = wrap64 ((16 + 16 * L : Nat) : Int)) := by
    have h1 := HSZ.out
    have h2 := HZ.out
    show IntKind.i64.wrap (16 + IntKind.i64.wrap (16 * (L : Int))) = _
    rw [i64w, i64w, w64_small (16 * (L : Int)) (by omega) (by omega)]
    congr 1
  have mid := fun w' hb => size_mid w #[.int .i64 2, .string s, .slice A2 n2 c2, .slice A3 n3 c3, .slice A4 n4 c4, .slice A5 n5 c5] 29 w' (.int .i64 (IntKind.i64.wrap (16 + IntKind.i64.wrap (16 * (L : Int))))) hb
  have LN' := LN ((w.alloc (.cells #[.int .i64 2, .string s, .slice A2 n2 c2, .slice A3 n3 c3, .slice A4 n4 c4, .slice A5 n5 c5] 29)).alloc (.cells #[.int .i64 16] 3)).drew (((Below.refl _ w).alloc (Nat.le_refl _) _).alloc (by simp) _).drew
  clear LN
  go_upto_region 8 with fail
  refine Code.wp_mono (Q := fun e a' W => e = .normal ∧ (∃ u14 u15 u16 u17 u18, a' = { tmps := #[.agg #[.int .i64 2, .string s, .slice A2 n2 c2, .slice A3 n3 c3, .slice A4 n4 c4, .slice A5 n5 c5], .pointer (some ⟨w.heap.size, 0, none⟩), .int .i64 0, .pointer (some ⟨w.heap.size + 1, 0, none⟩), undef, .pointer (some ⟨w.heap.size, 0, none⟩), .int .i64 2, .bool true, .bool true, undef, undef, undef, undef, undef, u14, u15, u16, u17, u18, undef, undef, undef, undef, undef, undef, undef, undef], defers := [] }) ∧
    Blk W w.heap.size #[.int .i64 2, .string s, .slice A2 n2 c2, .slice A3 n3 c3, .slice A4 n4 c4, .slice A5 n5 c5] 29 ∧ Boxed W (w.heap.size + 1) 3 (.int .i64 (IntKind.i64.wrap (16 + IntKind.i64.wrap (16 * (L : Int))))) ∧ Below w.heap.size w W) (fun e a' W hq => ?rest) ?first
  case first =>
    refine wp_region_noPanic ?_
    go_region_with (go_at_call 7; refine LN'.mono ?_; rintro e w' ⟨rfl, hb⟩; obtain ⟨c1, f1, m3⟩ := mid w' hb)
    all_goals exact ⟨rfl, ⟨_, _, _, _, _, rfl⟩, m3⟩

  case rest =>
    obtain ⟨rfl, ⟨u14, u15, u16, u17, u18, rfl⟩, kb, ks, hB0⟩ := hq
    rw [m2.out] at ks
    obtain ⟨q0, q1, q2, q3, q4, q5⟩ := kb.six
    have TXW := TX W hB0
    have HB0 := Lib.hid hB0
    have KS := Lib.hid ks
    have n1 : Hid (w.heap.size + 1 < W.heap.size) := ks.lt
    clear TX hB0 ks kb mid LN'
    go_wp2_with (go_at_call 16; refine TXW.mono ?_; rintro e w2 ⟨f, rfl, hb2, U, ⟨gf, lb, rfl, eg, hs⟩, hU⟩)
    obtain ⟨G, hG⟩ : ∃ G : Nat → Int, Hid (∀ n, G n = wrap64 (n : Int)) := ⟨fun n => wrap64 n, fun _ => rfl⟩
    have hB2 : Below w.heap.size w w2 := HB0.out.trans (hb2.mono HB0.out.size)
    have ks2 : Boxed w2 (w.heap.size + 1) 3 (.int .i64 (G (16 + 16 * L))) := by rw [hG.out]; exact (hb2.block _ n1.out).trans KS.out
    have hs0 := hs (fun k => k = w.heap.size + 1) w2 (Below.refl _ _) (fun k e => ⟨fun u => by have h1 := hU k u; have h2 := n1.out; omega, by have h2 := n1.out; have h3 := hb2.size; omega⟩)
    clear hs TXW
    refine (wpIn_wide (n := 8)).1 ?_
    refine wpIn_rangeFunc_ownG (n := 8) rfl (by omega) (gf := gf) (lb := lb) rfl trivial eg hs0 keep_t keep_b (Below.refl _ _) (fun _ => rfl)
      (fun pre W => Boxed W (w.heap.size + 1) 3 (.int .i64 (G (16 + 16 * L + Vl.sum pre))) ∧ Below w.heap.size w W)
      (fun _ _ _ => False)
      (OwnFrom.and (fun s A B row hs hg hr => boxed_keeps hs hg (fun r e => (hr r e).2)) (ownFrom_below (Nat.le_refl _) hB2.size))
      (fun _ _ _ _ _ hs _ _ => hs)
      ⟨ks2, hB2⟩
      (fun x => { tmps := #[.agg #[.int .i64 2, .string s, .slice A2 n2 c2, .slice A3 n3 c3, .slice A4 n4 c4, .slice A5 n5 c5], .pointer (some ⟨w.heap.size, 0, none⟩), .int .i64 0, .pointer (some ⟨w.heap.size + 1, 0, none⟩), .string x, .pointer (some ⟨w.heap.size, 0, none⟩), .int .i64 2, .bool true, .bool true, undef, undef, undef, undef, undef, u14, u15, u16, u17, u18, .agg #[.int .i64 2, .string s, .slice A2 n2 c2, .slice A3 n3 c3, .slice A4 n4 c4, .slice A5 n5 c5], .func (.func gf) #[] lb, .string x, undef, undef, undef, undef, undef], defers := [] }) ?assign ?body ?done ?stop
    case assign =>
      intro l x W K hK
      gi_wp2
      exact hK
    case body =>
      rintro l pre x W ⟨ks, hB⟩ _
      have cs := ks.cell
      have fs := ks.frozen
      gi_wp2
      refine ⟨(KeepsOthers.setCell _ _ _).from _, Keep.setCell (T := fun k => k = w.heap.size + 1) _ rfl _, ?_, hB.setCell (p := ⟨w.heap.size + 1, 0, none⟩) (by simp) _⟩
      have e := ks.set (.int .i64 (wrap64 (G (16 + 16 * L + Vl.sum pre) + (x.size : Int))))
      have e2 : wrap64 (G (16 + 16 * L + Vl.sum pre) + (x.size : Int)) = G (16 + 16 * L + Vl.sum (pre ++ [x])) := by
        rw [hG.out, hG.out, w64_add, vlsum_snoc]
        congr 1
        omega
      rw [e2] at e
      rw [← e2] at e ⊢
      exact e
    case done =>
      rintro D ys W hD rfl ⟨ks, hB⟩ hK
      have cs := ks.cell
      have e3 : Hid (G (16 + 16 * L + Vl.sum ys) = (SZ : Int)) := by
        have h1 := HSZ.out
        have h2 := HZ.out
        show G (16 + 16 * L + Vl.sum ys) = (SZ : Int)
        rw [hG.out, w64_small _ (by omega) (by omega)]
        omega
      go_wp2_with fail
      refine ⟨by simp, .inl ⟨_, _, rfl, run_takeDeferred hK, ?_⟩⟩
      refine ⟨_, results_tmp rfl _ _ _, ?_⟩
      exact ⟨congrArg (fun z => Ending.returned (Value.int .i64 z)) e3.out, hB.trans (belowK_b (w := w) (Nat.le_refl _) W D _ _ (by have := hB2.size; omega) hK rfl rfl)⟩
    case stop =>
      rintro D c pre W hD _ h _
      exact h.elim

set_option maxRecDepth 100000 in
set_option maxHeartbeats 4000000 in
theorem size3 (w : World) (B : Nat) (v : Value) (x : Vl) (h : Vr w B v x) (hkd : x.kind = 3) (hB : B ≤ w.heap.size) (l2 : x.list.length ≤ 1048576) (l3 : x.fields.length ≤ 1048576) (l4 : x.scores.length ≤ 1048576) (l5 : x.points.length ≤ 1048576) (hz : x.size < 1099511627776) :
    Calls Try.prog 8 #[v] w fun e w' => e = .returned (.int .i64 (x.size : Int)) ∧ Below w.heap.size w w' := by
  have LN := fun W (b : Below w.heap.size w W) => len_any W B v x (h.below (b.mono hB))
  have TX := fun W (b : Below w.heap.size w W) => texts_any W B v x (h.below (b.mono hB)) (Nat.le_trans hB b.size) l2 l3 l4 l5
  have hsz : x.size = 16 + 16 * x.len + Vl.sum x.texts := by unfold Vl.size Vl.many; rw [hkd]; rfl
  have HSZ := Lib.hid hsz
  have HZ := Lib.hid hz
  clear hsz hz
  obtain ⟨A2, c2, A3, c3, A4, c4, A5, c5, rfl, -⟩ := h.shows
  clear h
  obtain ⟨L, hL⟩ : ∃ L, x.len = L := ⟨_, rfl⟩
  simp only [hL] at LN HSZ
  obtain ⟨txs, htx⟩ : ∃ txs, x.texts = txs := ⟨_, rfl⟩
  simp only [htx] at TX HSZ
  obtain ⟨SZ, hSZ⟩ : ∃ SZ, x.size = SZ := ⟨_, rfl⟩
  simp only [hSZ] at HZ HSZ ⊢
  obtain ⟨kd, s, ls, fs, ss, ps⟩ := x
  simp only at hkd LN TX l2 l3 l4 l5 ⊢
  generalize ls.length = n2 at *
  generalize fs.length = n3 at *
  generalize ss.length = n4 at *
  generalize ps.length = n5 at *
  clear hL htx hSZ l2 l3 l4 l5
  subst hkd
  refine (callsIn_wide (n := 8)).1 ?_
  refine callsIn_of_wp_marks Try.func8 rfl trivial ?_ rfl
  simp only [Try.ntmps8, List.size_toArray, List.length_cons, List.length_nil, Nat.reduceAdd, Nat.reduceSub, Array.replicate_succ, Array.replicate_zero, List.push_toArray, List.append_toArray, List.nil_append, List.cons_append]
  refine wpIn_wide.2 ?_
  have m2 : Hid (IntKind.i64.wrap (16 + IntKind.i64.wrap (16 * (L : Int))) = wrap64 ((16 + 16 * L : Nat) : Int)) := by
    have h1 := HSZ.out
    have h2 := HZ.out
    show IntKind.i64.wrap (16 + IntKind.i64.wrap (16 * (L : Int))) = _
    rw [i64w, i64w, w64_small (16 * (L : Int)) (by omega) (by omega)]
    congr 1
  have mid := fun w' hb => size_mid w #[.int .i64 3, .string s, .slice A2 n2 c2, .slice A3 n3 c3, .slice A4 n4 c4, .slice A5 n5 c5] 29 w' (.int .i64 (IntKind.i64.wrap (16 + IntKind.i64.wrap (16 * (L : Int))))) hb
  have LN' := LN ((w.alloc (.cells #[.int .i64 3, .string s, .slice A2 n2 c2, .slice A3 n3 c3, .slice A4 n4 c4, .slice A5 n5 c5] 29)).alloc (.cells #[.int .i64 16] 3)).drew (((Below.refl _ w).alloc (Nat.le_refl _) _).alloc (by simp) _).drew
  clear LN
  go_upto_region 8 with fail
  refine Code.wp_mono (Q := fun e a' W => e = .normal ∧ (∃ u14 u15 u16 u17 u18, a' = { tmps := #[.agg #[.int .i64 3, .string s, .slice A2 n2 c2, .slice A3 n3 c3, .slice A4 n4 c4, .slice A5 n5 c5], .pointer (some ⟨w.heap.size, 0, none⟩), .int .i64 0, .pointer (some ⟨w.heap.size + 1, 0, none⟩), undef, .pointer (some ⟨w.heap.size, 0, none⟩), .int .i64 3, .bool true, .bool false, .bool true, undef, undef, undef, undef, u14, u15, u16, u17, u18, undef, undef, undef, undef, undef, undef, undef, undef], defers := [] }) ∧
    Blk W w.heap.size #[.int .i64 3, .string s, .slice A2 n2 c2, .slice A3 n3 c3, .slice A4 n4 c4, .slice A5 n5 c5] 29 ∧ Boxed W (w.heap.size + 1) 3 (.int .i64 (IntKind.i64.wrap (16 + IntKind.i64.wrap (16 * (L : Int))))) ∧ Below w.heap.size w W) (fun e a' W hq => ?rest) ?first
  case first =>
    refine wp_region_noPanic ?_
    go_region_with (go_at_call 7; refine LN'.mono ?_; rintro e w' ⟨rfl, hb⟩; obtain ⟨c1, f1, m3⟩ := mid w' hb)
    all_goals exact ⟨rfl, ⟨_, _, _, _, _, rfl⟩, m3⟩

  case rest =>
    obtain ⟨rfl, ⟨u14, u15, u16, u17, u18, rfl⟩, kb, ks, hB0⟩ := hq
    rw [m2.out] at ks
    obtain ⟨q0, q1, q2, q3, q4, q5⟩ := kb.six
    have TXW := TX W hB0
    have HB0 := Lib.hid hB0
    have KS := Lib.hid ks
    have n1 : Hid (w.heap.size + 1 < W.heap.size) := ks.lt
    clear TX hB0 ks kb mid LN'
    go_wp2_with (go_at_call 16; refine TXW.mono ?_; rintro e w2 ⟨f, rfl, hb2, U, ⟨gf, lb, rfl, eg, hs⟩, hU⟩)
    obtain ⟨G, hG⟩ : ∃ G : Nat → Int, Hid (∀ n, G n = wrap64 (n : Int)) := ⟨fun n => wrap64 n, fun _ => rfl⟩
    have hB2 : Below w.heap.size w w2 := HB0.out.trans (hb2.mono HB0.out.size)
    have ks2 : Boxed w2 (w.heap.size + 1) 3 (.int .i64 (G (16 + 16 * L))) := by rw [hG.out]; exact (hb2.block _ n1.out).trans KS.out
    have hs0 := hs (fun k => k = w.heap.size + 1) w2 (Below.refl _ _) (fun k e => ⟨fun u => by have h1 := hU k u; have h2 := n1.out; omega, by have h2 := n1.out; have h3 := hb2.size; omega⟩)
    clear hs TXW
    refine (wpIn_wide (n := 8)).1 ?_
    refine wpIn_rangeFunc_ownG (n := 8) rfl (by omega) (gf := gf) (lb := lb) rfl trivial eg hs0 keep_t keep_b (Below.refl _ _) (fun _ => rfl)
      (fun pre W => Boxed W (w.heap.size + 1) 3 (.int .i64 (G (16 + 16 * L + Vl.sum pre))) ∧ Below w.heap.size w W)
      (fun _ _ _ => False)
      (OwnFrom.and (fun s A B row hs hg hr => boxed_keeps hs hg (fun r e => (hr r e).2)) (ownFrom_below (Nat.le_refl _) hB2.size))
      (fun _ _ _ _ _ hs _ _ => hs)
      ⟨ks2, hB2⟩
      (fun x => { tmps := #[.agg #[.int .i64 3, .string s, .slice A2 n2 c2, .slice A3 n3 c3, .slice A4 n4 c4, .slice A5 n5 c5], .pointer (some ⟨w.heap.size, 0, none⟩), .int .i64 0, .pointer (some ⟨w.heap.size + 1, 0, none⟩), .string x, .pointer (some ⟨w.heap.size, 0, none⟩), .int .i64 3, .bool true, .bool false, .bool true, undef, undef, undef, undef, u14, u15, u16, u17, u18, .agg #[.int .i64 3, .string s, .slice A2 n2 c2, .slice A3 n3 c3, .slice A4 n4 c4, .slice A5 n5 c5], .func (.func gf) #[] lb, .string x, undef, undef, undef, undef, undef], defers := [] }) ?assign ?body ?done ?stop
    case assign =>
      intro l x W K hK
      gi_wp2
      exact hK
    case body =>
      rintro l pre x W ⟨ks, hB⟩ _
      have cs := ks.cell
      have fs := ks.frozen
      gi_wp2
      refine ⟨(KeepsOthers.setCell _ _ _).from _, Keep.setCell (T := fun k => k = w.heap.size + 1) _ rfl _, ?_, hB.setCell (p := ⟨w.heap.size + 1, 0, none⟩) (by simp) _⟩
      have e := ks.set (.int .i64 (wrap64 (G (16 + 16 * L + Vl.sum pre) + (x.size : Int))))
      have e2 : wrap64 (G (16 + 16 * L + Vl.sum pre) + (x.size : Int)) = G (16 + 16 * L + Vl.sum (pre ++ [x])) := by
        rw [hG.out, hG.out, w64_add, vlsum_snoc]
        congr 1
        omega
      rw [e2] at e
      rw [← e2] at e ⊢
      exact e
    case done =>
      rintro D ys W hD rfl ⟨ks, hB⟩ hK
      have cs := ks.cell
      have e3 : Hid (G (16 + 16 * L + Vl.sum ys) = (SZ : Int)) := by
        have h1 := HSZ.out
        have h2 := HZ.out
        show G (16 + 16 * L + Vl.sum ys) = (SZ : Int)
        rw [hG.out, w64_small _ (by omega) (by omega)]
        omega
      go_wp2_with fail
      refine ⟨by simp, .inl ⟨_, _, rfl, run_takeDeferred hK, ?_⟩⟩
      refine ⟨_, results_tmp rfl _ _ _, ?_⟩
      exact ⟨congrArg (fun z => Ending.returned (Value.int .i64 z)) e3.out, hB.trans (belowK_b (w := w) (Nat.le_refl _) W D _ _ (by have := hB2.size; omega) hK rfl rfl)⟩
    case stop =>
      rintro D c pre W hD _ h _
      exact h.elim

set_option maxRecDepth 100000 in
set_option maxHeartbeats 4000000 in
theorem size4 (w : World) (B : Nat) (v : Value) (x : Vl) (h : Vr w B v x) (hkd : x.kind = 4) (hB : B ≤ w.heap.size) (l2 : x.list.length ≤ 1048576) (l3 : x.fields.length ≤ 1048576) (l4 : x.scores.length ≤ 1048576) (l5 : x.points.length ≤ 1048576) (hz : x.size < 1099511627776) :
    Calls Try.prog 8 #[v] w fun e w' => e = .returned (.int .i64 (x.size : Int)) ∧ Below w.heap.size w w' := by
  have LN := fun W (b : Below w.heap.size w W) => len_any W B v x (h.below (b.mono hB))
  have TX := fun W (b : Below w.heap.size w W) => texts_any W B v x (h.below (b.mono hB)) (Nat.le_trans hB b.size) l2 l3 l4 l5
  have hsz : x.size = 16 + 16 * x.len + Vl.sum x.texts := by unfold Vl.size Vl.many; rw [hkd]; rfl
  have HSZ := Lib.hid hsz
  have HZ := Lib.hid hz
  clear hsz hz
  obtain ⟨A2, c2, A3, c3, A4, c4, A5, c5, rfl, -⟩ := h.shows
  clear h
  obtain ⟨L, hL⟩ : ∃ L, x.len = L := ⟨_, rfl⟩
  simp only [hL] at LN HSZ
  obtain ⟨txs, htx⟩ : ∃ txs, x.texts = txs := ⟨_, rfl⟩
  simp only [htx] at TX HSZ
  obtain ⟨SZ, hSZ⟩ : ∃ SZ, x.size = SZ := ⟨_, rfl⟩
  simp only [hSZ] at HZ HSZ ⊢
  obtain ⟨kd, s, ls, fs, ss, ps⟩ := x
  simp only at hkd LN TX l2 l3 l4 l5 ⊢
  generalize ls.length = n2 at *
  generalize fs.length = n3 at *
  generalize ss.length = n4 at *
  generalize ps.length = n5 at *
  clear hL htx hSZ l2 l3 l4 l5
  subst hkd
  refine (callsIn_wide (n := 8)).1 ?_
  refine callsIn_of_wp_marks Try.func8 rfl trivial ?_ rfl
  simp only [Try.ntmps8, List.size_toArray, List.length_cons, List.length_nil, Nat.reduceAdd, Nat.reduceSub, Array.replicate_succ, Array.replicate_zero, List.push_toArray, List.append_toArray, List.nil_append, List.cons_append]
  refine wpIn_wide.2 ?_
  have m2 : Hid (IntKind.i64.wrap (16 + IntKind.i64.wrap (16 * (L : Int))) = wrap64 ((16 + 16 * L : Nat) : Int)) := by
    have h1 := HSZ.out
    have h2 := HZ.out
    show IntKind.i64.wrap (16 + IntKind.i64.wrap (16 * (L : Int))) = _
    rw [i64w, i64w, w64_small (16 * (L : Int)) (by omega) (by omega)]
    congr 1
  have mid := fun w' hb => size_mid w #[.int .i64 4, .string s, .slice A2 n2 c2, .slice A3 n3 c3, .slice A4 n4 c4, .slice A5 n5 c5] 29 w' (.int .i64 (IntKind.i64.wrap (16 + IntKind.i64.wrap (16 * (L : Int))))) hb
  have LN' := LN ((w.alloc (.cells #[.int .i64 4, .string s, .slice A2 n2 c2, .slice A3 n3 c3, .slice A4 n4 c4, .slice A5 n5 c5] 29)).alloc (.cells #[.int .i64 16] 3)).drew (((Below.refl _ w).alloc (Nat.le_refl _) _).alloc (by simp) _).drew
  clear LN
  go_upto_region 8 with fail
  refine Code.wp_mono (Q := fun e a' W => e = .normal ∧ (∃ u14 u15 u16 u17 u18, a' = { tmps := #[.agg #[.int .i64 4, .string s, .slice A2 n2 c2, .slice A3 n3 c3, .slice A4 n4 c4, .slice A5 n5 c5], .pointer (some ⟨w.heap.size, 0, none⟩), .int .i64 0, .pointer (some ⟨w.heap.size + 1, 0, none⟩), undef, .pointer (some ⟨w.heap.size, 0, none⟩), .int .i64 4, .bool true, .bool false, .bool false, .bool true, undef, undef, undef, u14, u15, u16, u17, u18, undef, undef, undef, undef, undef, undef, undef, undef], defers := [] }) ∧
    Blk W w.heap.size #[.int .i64 4, .string s, .slice A2 n2 c2, .slice A3 n3 c3, .slice A4 n4 c4, .slice A5 n5 c5] 29 ∧ Boxed W (w.heap.size + 1) 3 (.int .i64 (IntKind.i64.wrap (16 + IntKind.i64.wrap (16 * (L : Int))))) ∧ Below w.heap.size w W) (fun e a' W hq => ?rest) ?first
  case first =>
    refine wp_region_noPanic ?_
    go_region_with (go_at_call 7; refine LN'.mono ?_; rintro e w' ⟨rfl, hb⟩; obtain ⟨c1, f1, m3⟩ := mid w' hb)
    all_goals exact ⟨rfl, ⟨_, _, _, _, _, rfl⟩, m3⟩

  case rest =>
    obtain ⟨rfl, ⟨u14, u15, u16, u17, u18, rfl⟩, kb, ks, hB0⟩ := hq
    rw [m2.out] at ks
    obtain ⟨q0, q1, q2, q3, q4, q5⟩ := kb.six
    have TXW := TX W hB0
    have HB0 := Lib.hid hB0
    have KS := Lib.hid ks
    have n1 : Hid (w.heap.size + 1 < W.heap.size) := ks.lt
    clear TX hB0 ks kb mid LN'
    go_wp2_with (go_at_call 16; refine TXW.mono ?_; rintro e w2 ⟨f, rfl, hb2, U, ⟨gf, lb, rfl, eg, hs⟩, hU⟩)
    obtain ⟨G, hG⟩ : ∃ G : Nat → Int, Hid (∀ n, G n = wrap64 (n : Int)) := ⟨fun n => wrap64 n, fun _ => rfl⟩
    have hB2 : Below w.heap.size w w2 := HB0.out.trans (hb2.mono HB0.out.size)
    have ks2 : Boxed w2 (w.heap.size + 1) 3 (.int .i64 (G (16 + 16 * L))) := by rw [hG.out]; exact (hb2.block _ n1.out).trans KS.out
    have hs0 := hs (fun k => k = w.heap.size + 1) w2 (Below.refl _ _) (fun k e => ⟨fun u => by have h1 := hU k u; have h2 := n1.out; omega, by have h2 := n1.out; have h3 := hb2.size; omega⟩)
    clear hs TXW
    refine (wpIn_wide (n := 8)).1 ?_
    refine wpIn_rangeFunc_ownG (n := 8) rfl (by omega) (gf := gf) (lb := lb) rfl trivial eg hs0 keep_t keep_b (Below.refl _ _) (fun _ => rfl)
      (fun pre W => Boxed W (w.heap.size + 1) 3 (.int .i64 (G (16 + 16 * L + Vl.sum pre))) ∧ Below w.heap.size w W)
      (fun _ _ _ => False)
      (OwnFrom.and (fun s A B row hs hg hr => boxed_keeps hs hg (fun r e => (hr r e).2)) (ownFrom_below (Nat.le_refl _) hB2.size))
      (fun _ _ _ _ _ hs _ _ => hs)
      ⟨ks2, hB2⟩
      (fun x => { tmps := #[.agg #[.int .i64 4, .string s, .slice A2 n2 c2, .slice A3 n3 c3, .slice A4 n4 c4, .slice A5 n5 c5], .pointer (some ⟨w.heap.size, 0, none⟩), .int .i64 0, .pointer (some ⟨w.heap.size + 1, 0, none⟩), .string x, .pointer (some ⟨w.heap.size, 0, none⟩), .int .i64 4, .bool true, .bool false, .bool false, .bool true, undef, undef, undef, u14, u15, u16, u17, u18, .agg #[.int .i64 4, .string s, .slice A2 n2 c2, .slice A3 n3 c3, .slice A4 n4 c4, .slice A5 n5 c5], .func (.func gf) #[] lb, .string x, undef, undef, undef, undef, undef], defers := [] }) ?assign ?body ?done ?stop
    case assign =>
      intro l x W K hK
      gi_wp2
      exact hK
    case body =>
      rintro l pre x W ⟨ks, hB⟩ _
      have cs := ks.cell
      have fs := ks.frozen
      gi_wp2
      refine ⟨(KeepsOthers.setCell _ _ _).from _, Keep.setCell (T := fun k => k = w.heap.size + 1) _ rfl _, ?_, hB.setCell (p := ⟨w.heap.size + 1, 0, none⟩) (by simp) _⟩
      have e := ks.set (.int .i64 (wrap64 (G (16 + 16 * L + Vl.sum pre) + (x.size : Int))))
      have e2 : wrap64 (G (16 + 16 * L + Vl.sum pre) + (x.size : Int)) = G (16 + 16 * L + Vl.sum (pre ++ [x])) := by
        rw [hG.out, hG.out, w64_add, vlsum_snoc]
        congr 1
        omega
      rw [e2] at e
      rw [← e2] at e ⊢
      exact e
    case done =>
      rintro D ys W hD rfl ⟨ks, hB⟩ hK
      have cs := ks.cell
      have e3 : Hid (G (16 + 16 * L + Vl.sum ys) = (SZ : Int)) := by
        have h1 := HSZ.out
        have h2 := HZ.out
        show G (16 + 16 * L + Vl.sum ys) = (SZ : Int)
        rw [hG.out, w64_small _ (by omega) (by omega)]
        omega
      go_wp2_with fail
      refine ⟨by simp, .inl ⟨_, _, rfl, run_takeDeferred hK, ?_⟩⟩
      refine ⟨_, results_tmp rfl _ _ _, ?_⟩
      exact ⟨congrArg (fun z => Ending.returned (Value.int .i64 z)) e3.out, hB.trans (belowK_b (w := w) (Nat.le_refl _) W D _ _ (by have := hB2.size; omega) hK rfl rfl)⟩
    case stop =>
      rintro D c pre W hD _ h _
      exact h.elim

set_option maxRecDepth 100000 in
set_option maxHeartbeats 4000000 in
theorem size5 (w : World) (B : Nat) (v : Value) (x : Vl) (h : Vr w B v x) (hkd : x.kind = 5) (hB : B ≤ w.heap.size) (l2 : x.list.length ≤ 1048576) (l3 : x.fields.length ≤ 1048576) (l4 : x.scores.length ≤ 1048576) (l5 : x.points.length ≤ 1048576) (hz : x.size < 1099511627776) :
    Calls Try.prog 8 #[v] w fun e w' => e = .returned (.int .i64 (x.size : Int)) ∧ Below w.heap.size w w' := by
  have LN := fun W (b : Below w.heap.size w W) => len_any W B v x (h.below (b.mono hB))
  have TX := fun W (b : Below w.heap.size w W) => texts_any W B v x (h.below (b.mono hB)) (Nat.le_trans hB b.size) l2 l3 l4 l5
  have hsz : x.size = 16 + 16 * x.len + Vl.sum x.texts := by unfold Vl.size Vl.many; rw [hkd]; rfl
  have HSZ := Lib.hid hsz
  have HZ := Lib.hid hz
  clear hsz hz
  obtain ⟨A2, c2, A3, c3, A4, c4, A5, c5, rfl, -⟩ := h.shows
  clear h
  obtain ⟨L, hL⟩ : ∃ L, x.len = L := ⟨_, rfl⟩
  simp only [hL] at LN HSZ
  obtain ⟨txs, htx⟩ : ∃ txs, x.texts = txs := ⟨_, rfl⟩
  simp only [htx] at TX HSZ
  obtain ⟨SZ, hSZ⟩ : ∃ SZ, x.size = SZ := ⟨_, rfl⟩
  simp only [hSZ] at HZ HSZ ⊢
  obtain ⟨kd, s, ls, fs, ss, ps⟩ := x
  simp only at hkd LN TX l2 l3 l4 l5 ⊢
  generalize ls.length = n2 at *
  generalize fs.length = n3 at *
  generalize ss.length = n4 at *
  generalize ps.length = n5 at *
  clear hL htx hSZ l2 l3 l4 l5
  subst hkd
  refine (callsIn_wide (n := 8)).1 ?_
  refine callsIn_of_wp_marks Try.func8 rfl trivial ?_ rfl
  simp only [Try.ntmps8, List.size_toArray, List.length_cons, List.length_nil, Nat.reduceAdd, Nat.reduceSub, Array.replicate_succ, Array.replicate_zero, List.push_toArray, List.append_toArray, List.nil_append, List.cons_append]
  refine wpIn_wide.2 ?_
  have m2 : Hid (IntKind.i64.wrap (16 + IntKind.i64.wrap (16 * (L : Int))) = wrap64 ((16 + 16 * L : Nat) : Int)) := by
    have h1 := HSZ.out
    have h2 := HZ.out
    show IntKind.i64.wrap (16 + IntKind.i64.wrap (16 * (L : Int))) = _
    rw [i64w, i64w, w64_small (16 * (L : Int)) (by omega) (by omega)]
    congr 1
  have mid := fun w' hb => size_mid w #[.int .i64 5, .string s, .slice A2 n2 c2, .slice A3 n3 c3, .slice A4 n4 c4, .slice A5 n5 c5] 29 w' (.int .i64 (IntKind.i64.wrap (16 + IntKind.i64.wrap (16 * (L : Int))))) hb
  have LN' := LN ((w.alloc (.cells #[.int .i64 5, .string s, .slice A2 n2 c2, .slice A3 n3 c3, .slice A4 n4 c4, .slice A5 n5 c5] 29)).alloc (.cells #[.int .i64 16] 3)).drew (((Below.refl _ w).alloc (Nat.le_refl _) _).alloc (by simp) _).drew
  clear LN
  go_upto_region 8 with fail
  refine Code.wp_mono (Q := fun e a' W => e = .normal ∧ (∃ u14 u15 u16 u17 u18, a' = { tmps := #[.agg #[.int .i64 5, .string s, .slice A2 n2 c2, .slice A3 n3 c3, .slice A4 n4 c4, .slice A5 n5 c5], .pointer (some ⟨w.heap.size, 0, none⟩), .int .i64 0, .pointer (some ⟨w.heap.size + 1, 0, none⟩), undef, .pointer (some ⟨w.heap.size, 0, none⟩), .int .i64 5, .bool true, .bool false, .bool false, .bool false, .bool true, undef, undef, u14, u15, u16, u17, u18, undef, undef, undef, undef, undef, undef, undef, undef], defers := [] }) ∧
    Blk W w.heap.size #[.int .i64 5, .string s, .slice A2 n2 c2, .slice A3 n3 c3, .slice A4 n4 c4, .slice A5 n5 c5] 29 ∧ Boxed W (w.heap.size + 1) 3 (.int .i64 (IntKind.i64.wrap (16 + IntKind.i64.wrap (16 * (L : Int))))) ∧ Below w.heap.size w W) (fun e a' W hq => ?rest) ?first
  case first =>
    refine wp_region_noPanic ?_
    go_region_with (go_at_call 7; refine LN'.mono ?_; rintro e w' ⟨rfl, hb⟩; obtain ⟨c1, f1, m3⟩ := mid w' hb)
    all_goals exact ⟨rfl, ⟨_, _, _, _, _, rfl⟩, m3⟩

  case rest =>
    obtain ⟨rfl, ⟨u14, u15, u16, u17, u18, rfl⟩, kb, ks, hB0⟩ := hq
    rw [m2.out] at ks
    obtain ⟨q0, q1, q2, q3, q4, q5⟩ := kb.six
    have TXW := TX W hB0
    have HB0 := Lib.hid hB0
    have KS := Lib.hid ks
    have n1 : Hid (w.heap.size + 1 < W.heap.size) := ks.lt
    clear TX hB0 ks kb mid LN'
    go_wp2_with (go_at_call 16; refine TXW.mono ?_; rintro e w2 ⟨f, rfl, hb2, U, ⟨gf, lb, rfl, eg, hs⟩, hU⟩)
    obtain ⟨G, hG⟩ : ∃ G : Nat → Int, Hid (∀ n, G n = wrap64 (n : Int)) := ⟨fun n => wrap64 n, fun _ => rfl⟩
    have hB2 : Below w.heap.size w w2 := HB0.out.trans (hb2.mono HB0.out.size)
    have ks2 : Boxed w2 (w.heap.size + 1) 3 (.int .i64 (G (16 + 16 * L))) := by rw [hG.out]; exact (hb2.block _ n1.out).trans KS.out
    have hs0 := hs (fun k => k = w.heap.size + 1) w2 (Below.refl _ _) (fun k e => ⟨fun u => by have h1 := hU k u; have h2 := n1.out; omega, by have h2 := n1.out; have h3 := hb2.size; omega⟩)
    clear hs TXW
    refine (wpIn_wide (n := 8)).1 ?_
    refine wpIn_rangeFunc_ownG (n := 8) rfl (by omega) (gf := gf) (lb := lb) rfl trivial eg hs0 keep_t keep_b (Below.refl _ _) (fun _ => rfl)
      (fun pre W => Boxed W (w.heap.size + 1) 3 (.int .i64 (G (16 + 16 * L + Vl.sum pre))) ∧ Below w.heap.size w W)
      (fun _ _ _ => False)
      (OwnFrom.and (fun s A B row hs hg hr => boxed_keeps hs hg (fun r e => (hr r e).2)) (ownFrom_below (Nat.le_refl _) hB2.size))
      (fun _ _ _ _ _ hs _ _ => hs)
      ⟨ks2, hB2⟩
      (fun x => { tmps := #[.agg #[.int .i64 5, .string s, .slice A2 n2 c2, .slice A3 n3 c3, .slice A4 n4 c4, .slice A5 n5 c5], .pointer (some ⟨w.heap.size, 0, none⟩), .int .i64 0, .pointer (some ⟨w.heap.size + 1, 0, none⟩), .string x, .pointer (some ⟨w.heap.size, 0, none⟩), .int .i64 5, .bool true, .bool false, .bool false, .bool false, .bool true, undef, undef, u14, u15, u16, u17, u18, .agg #[.int .i64 5, .string s, .slice A2 n2 c2, .slice A3 n3 c3, .slice A4 n4 c4, .slice A5 n5 c5], .func (.func gf) #[] lb, .string x, undef, undef, undef, undef, undef], defers := [] }) ?assign ?body ?done ?stop
    case assign =>
      intro l x W K hK
      gi_wp2
      exact hK
    case body =>
      rintro l pre x W ⟨ks, hB⟩ _
      have cs := ks.cell
      have fs := ks.frozen
      gi_wp2
      refine ⟨(KeepsOthers.setCell _ _ _).from _, Keep.setCell (T := fun k => k = w.heap.size + 1) _ rfl _, ?_, hB.setCell (p := ⟨w.heap.size + 1, 0, none⟩) (by simp) _⟩
      have e := ks.set (.int .i64 (wrap64 (G (16 + 16 * L + Vl.sum pre) + (x.size : Int))))
      have e2 : wrap64 (G (16 + 16 * L + Vl.sum pre) + (x.size : Int)) = G (16 + 16 * L + Vl.sum (pre ++ [x])) := by
        rw [hG.out, hG.out, w64_add, vlsum_snoc]
        congr 1
        omega
      rw [e2] at e
      rw [← e2] at e ⊢
      exact e
    case done =>
      rintro D ys W hD rfl ⟨ks, hB⟩ hK
      have cs := ks.cell
      have e3 : Hid (G (16 + 16 * L + Vl.sum ys) = (SZ : Int)) := by
        have h1 := HSZ.out
        have h2 := HZ.out
        show G (16 + 16 * L + Vl.sum ys) = (SZ : Int)
        rw [hG.out, w64_small _ (by omega) (by omega)]
        omega
      go_wp2_with fail
      refine ⟨by simp, .inl ⟨_, _, rfl, run_takeDeferred hK, ?_⟩⟩
      refine ⟨_, results_tmp rfl _ _ _, ?_⟩
      exact ⟨congrArg (fun z => Ending.returned (Value.int .i64 z)) e3.out, hB.trans (belowK_b (w := w) (Nat.le_refl _) W D _ _ (by have := hB2.size; omega) hK rfl rfl)⟩
    case stop =>
      rintro D c pre W hD _ h _
      exact h.elim

set_option maxRecDepth 100000 in
set_option maxHeartbeats 4000000 in
theorem size1 (w : World) (B : Nat) (v : Value) (x : Vl) (h : Vr w B v x) (hkd : x.kind = 1) (hB : B ≤ w.heap.size) (l2 : x.list.length ≤ 1048576) (l3 : x.fields.length ≤ 1048576) (l4 : x.scores.length ≤ 1048576) (l5 : x.points.length ≤ 1048576) (hz : x.size < 1099511627776) :
    Calls Try.prog 8 #[v] w fun e w' => e = .returned (.int .i64 (x.size : Int)) ∧ Below w.heap.size w w' := by
  have LN := fun W (b : Below w.heap.size w W) => len_any W B v x (h.below (b.mono hB))
  have TX := fun W (b : Below w.heap.size w W) => texts_any W B v x (h.below (b.mono hB)) (Nat.le_trans hB b.size) l2 l3 l4 l5
  have hsz : x.size = 16 + Vl.sum x.texts := by unfold Vl.size Vl.many; rw [hkd]; rfl
  have HSZ := Lib.hid hsz
  have HZ := Lib.hid hz
  clear hsz hz
  obtain ⟨A2, c2, A3, c3, A4, c4, A5, c5, rfl, -⟩ := h.shows
  clear h
  obtain ⟨L, hL⟩ : ∃ L, x.len = L := ⟨_, rfl⟩
  simp only [hL] at LN HSZ
  obtain ⟨txs, htx⟩ : ∃ txs, x.texts = txs := ⟨_, rfl⟩
  simp only [htx] at TX HSZ
  obtain ⟨SZ, hSZ⟩ : ∃ SZ, x.size = SZ := ⟨_, rfl⟩
  simp only [hSZ] at HZ HSZ ⊢
  obtain ⟨kd, s, ls, fs, ss, ps⟩ := x
  simp only at hkd LN TX l2 l3 l4 l5 ⊢
  generalize ls.length = n2 at *
  generalize fs.length = n3 at *
  generalize ss.length = n4 at *
  generalize ps.length = n5 at *
  clear hL htx hSZ l2 l3 l4 l5
  subst hkd
  refine (callsIn_wide (n := 8)).1 ?_
  refine callsIn_of_wp_marks Try.func8 rfl trivial ?_ rfl
  simp only [Try.ntmps8, List.size_toArray, List.length_cons, List.length_nil, Nat.reduceAdd, Nat.reduceSub, Array.replicate_succ, Array.replicate_zero, List.push_toArray, List.append_toArray, List.nil_append, List.cons_append]
  refine wpIn_wide.2 ?_
  have ks : Boxed ((w.alloc (.cells #[.int .i64 1, .string s, .slice A2 n2 c2, .slice A3 n3 c3, .slice A4 n4 c4, .slice A5 n5 c5] 29)).alloc (.cells #[.int .i64 16] 3)) (w.heap.size + 1) 3 (.int .i64 (wrap64 ((16 : Nat) : Int))) := by
    rw [w64_small ((16 : Nat) : Int) (by decide) (by decide)]
    have := Boxed.new (w.alloc (.cells #[.int .i64 1, .string s, .slice A2 n2 c2, .slice A3 n3 c3, .slice A4 n4 c4, .slice A5 n5 c5] 29)) 3 (.int .i64 16)
    rw [World.size_alloc] at this
    exact this
  have hB0 : Below w.heap.size w ((w.alloc (.cells #[.int .i64 1, .string s, .slice A2 n2 c2, .slice A3 n3 c3, .slice A4 n4 c4, .slice A5 n5 c5] 29)).alloc (.cells #[.int .i64 16] 3)) := ((Below.refl _ w).alloc (Nat.le_refl _) _).alloc (by simp) _
  clear LN
  refine (fun hr => hr) ?rest

  case rest =>
    have TXW := TX _ hB0
    have HB0 := Lib.hid hB0
    have KS := Lib.hid ks
    have n1 := Lib.hid ks.lt
    clear TX hB0 ks
    go_wp2_with (go_at_call 16; refine TXW.mono ?_; rintro e w2 ⟨f, rfl, hb2, U, ⟨gf, lb, rfl, eg, hs⟩, hU⟩)
    obtain ⟨G, hG⟩ : ∃ G : Nat → Int, Hid (∀ n, G n = wrap64 (n : Int)) := ⟨fun n => wrap64 n, fun _ => rfl⟩
    have hB2 : Below w.heap.size w w2 := HB0.out.trans (hb2.mono HB0.out.size)
    have ks2 : Boxed w2 (w.heap.size + 1) 3 (.int .i64 (G (16))) := by rw [hG.out]; exact (hb2.block _ n1.out).trans KS.out
    have hs0 := hs (fun k => k = w.heap.size + 1) w2 (Below.refl _ _) (fun k e => ⟨fun u => by have h1 := hU k u; have h2 := n1.out; omega, by have h2 := n1.out; have h3 := hb2.size; omega⟩)
    clear hs TXW
    refine (wpIn_wide (n := 8)).1 ?_
    refine wpIn_rangeFunc_ownG (n := 8) rfl (by omega) (gf := gf) (lb := lb) rfl trivial eg hs0 keep_t keep_b (Below.refl _ _) (fun _ => rfl)
      (fun pre W => Boxed W (w.heap.size + 1) 3 (.int .i64 (G (16 + Vl.sum pre))) ∧ Below w.heap.size w W)
      (fun _ _ _ => False)
      (OwnFrom.and (fun s A B row hs hg hr => boxed_keeps hs hg (fun r e => (hr r e).2)) (ownFrom_below (Nat.le_refl _) hB2.size))
      (fun _ _ _ _ _ hs _ _ => hs)
      ⟨ks2, hB2⟩
      (fun x => { tmps := #[.agg #[.int .i64 1, .string s, .slice A2 n2 c2, .slice A3 n3 c3, .slice A4 n4 c4, .slice A5 n5 c5], .pointer (some ⟨w.heap.size, 0, none⟩), .int .i64 0, .pointer (some ⟨w.heap.size + 1, 0, none⟩), .string x, .pointer (some ⟨w.heap.size, 0, none⟩), .int .i64 1, .bool false, .bool false, .bool false, .bool false, .bool false, .bool true, .bool true, undef, undef, undef, undef, undef, .agg #[.int .i64 1, .string s, .slice A2 n2 c2, .slice A3 n3 c3, .slice A4 n4 c4, .slice A5 n5 c5], .func (.func gf) #[] lb, .string x, undef, undef, undef, undef, undef], defers := [] }) ?assign ?body ?done ?stop
    case assign =>
      intro l x W K hK
      gi_wp2
      exact hK
    case body =>
      rintro l pre x W ⟨ks, hB⟩ _
      have cs := ks.cell
      have fs := ks.frozen
      gi_wp2
      refine ⟨(KeepsOthers.setCell _ _ _).from _, Keep.setCell (T := fun k => k = w.heap.size + 1) _ rfl _, ?_, hB.setCell (p := ⟨w.heap.size + 1, 0, none⟩) (by simp) _⟩
      have e := ks.set (.int .i64 (wrap64 (G (16 + Vl.sum pre) + (x.size : Int))))
      have e2 : wrap64 (G (16 + Vl.sum pre) + (x.size : Int)) = G (16 + Vl.sum (pre ++ [x])) := by
        rw [hG.out, hG.out, w64_add, vlsum_snoc]
        congr 1
        omega
      rw [e2] at e
      rw [← e2] at e ⊢
      exact e
    case done =>
      rintro D ys W hD rfl ⟨ks, hB⟩ hK
      have cs := ks.cell
      have e3 : Hid (G (16 + Vl.sum ys) = (SZ : Int)) := by
        have h1 := HSZ.out
        have h2 := HZ.out
        show G (16 + Vl.sum ys) = (SZ : Int)
        rw [hG.out, w64_small _ (by omega) (by omega)]
        omega
      go_wp2_with fail
      refine ⟨by simp, .inl ⟨_, _, rfl, run_takeDeferred hK, ?_⟩⟩
      refine ⟨_, results_tmp rfl _ _ _, ?_⟩
      exact ⟨congrArg (fun z => Ending.returned (Value.int .i64 z)) e3.out, hB.trans (belowK_b (w := w) (Nat.le_refl _) W D _ _ (by have := hB2.size; omega) hK rfl rfl)⟩
    case stop =>
      rintro D c pre W hD _ h _
      exact h.elim

/-- Size. -/
theorem size_any (w : World) (B : Nat) (v : Value) (x : Vl) (h : Vr w B v x) (hkd : x.kind = 1 ∨ x.many = true) (hB : B ≤ w.heap.size) (l2 : x.list.length ≤ 1048576) (l3 : x.fields.length ≤ 1048576) (l4 : x.scores.length ≤ 1048576) (l5 : x.points.length ≤ 1048576) (hz : x.size < 1099511627776) :
    Calls Try.prog 8 #[v] w fun e w' => e = .returned (.int .i64 (x.size : Int)) ∧ Below w.heap.size w w' := by
  have k : x.kind = 1 ∨ x.kind = 2 ∨ x.kind = 3 ∨ x.kind = 4 ∨ x.kind = 5 := by
    rcases hkd with k | k
    · exact .inl k
    · simp only [Vl.many, Bool.or_eq_true, decide_eq_true_eq] at k
      omega
  rcases k with k | k | k | k | k
  · exact size1 w B v x h k hB l2 l3 l4 l5 hz
  · exact size2 w B v x h k hB l2 l3 l4 l5 hz
  · exact size3 w B v x h k hB l2 l3 l4 l5 hz
  · exact size4 w B v x h k hB l2 l3 l4 l5 hz
  · exact size5 w B v x h k hB l2 l3 l4 l5 hz
end Go.Proofs.Ytgokjdlemfaagaa
