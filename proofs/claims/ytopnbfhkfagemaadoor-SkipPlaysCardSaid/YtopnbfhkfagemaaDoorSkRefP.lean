/- The document's own list: PutScore. -/
import Derived.Test.YtopnbfhkfagemaaDoorSkRefD
import Derived.Deep.RegionHeld3
import Derived.BigQuiet
import Derived.BigRegion
import Derived.Deep.RegionWith
namespace Go.Proofs.YtopnbfhkfagemaaDoor
open Go.RowKit
set_option linter.unusedVariables false
theorem put_cut {d : List SkM.E} (ok : SkM.Ok d) (x : SkM.E) (k : Nat) (hk : k ≤ d.length) (h : ∀ j (hj : j < d.length), j < k → SkM.lt d[j] x) (stop : ∀ hk : k < d.length, ¬ SkM.lt d[k] x) : SkM.ins x d = d.take k ++ x :: d.drop k := by
  have := SkM.ins_split (x := x) (a := d.take k) (b := d.drop k) (fun y hy => ?_) (fun y hy => ?_)
  · rw [List.take_append_drop] at this; exact this
  · obtain ⟨j, hj, rfl⟩ := List.getElem_of_mem hy
    rw [List.length_take] at hj
    rw [List.getElem_take]
    exact h j (by omega) (by omega)
  · obtain ⟨j, hj, rfl⟩ := List.getElem_of_mem hy
    rw [List.length_drop] at hj
    rw [List.getElem_drop]
    by_cases j0 : j = 0
    · subst j0
      exact stop (by omega)
    · intro hl
      have := List.pairwise_iff_getElem.1 ok.sorted k (k + j) (by omega) (by omega) (by omega)
      exact stop (by omega) (SkM.lt_trans this hl)
theorem one_list (W : World) (s : ByteArray) (x : Int) : SList (W.alloc (.cells #[.string s, .int .i64 x] 30)) (.slice (some ⟨W.heap.size, 0, none⟩) 1 1) [(s.data.toList, x)] := by
  refine ⟨_, 1, rfl, (fun e => nomatch e), Nat.le_refl _, fun i hi => ?_⟩
  obtain rfl : i = 0 := by simpa using hi
  refine ⟨_, rfl, by simp, ?_, ?_⟩
  · rw [show ((⟨W.heap.size, 0, none⟩ : Addr).add (0 * 2)) = ⟨W.heap.size, 0, none⟩ from rfl, World.cell?_alloc_new]
    rfl
  · rw [show (((⟨W.heap.size, 0, none⟩ : Addr).add (0 * 2)).add 1) = ⟨W.heap.size, 1, none⟩ from rfl, World.cell?_alloc_new]
    rfl
theorem sl_none (W : World) (l : List SkM.E) (h : l.length = 0) : SList W (.slice none 0 0) l := by
  rw [List.eq_nil_of_length_eq_zero h]
  exact ⟨none, 0, rfl, fun _ => rfl, Nat.le_refl _, fun i hi => absurd hi (Nat.not_lt_zero _)⟩
theorem sl_end {w : World} {a : Addr} {m c : Nat} {d : List SkM.E} (h : SList w (.slice (some a) m c) d) (hm : m ≤ d.length) : SList w (.slice (if c = m then some a else some (a.add (m * 2))) 0 (c - m)) (d.drop m) := by
  have := h.behind m hm
  rw [Nat.sub_self] at this
  exact this
theorem InNew.wider {w wq w6 : World} {v : Value} (h : InNew wq w6 v) (hs : w.heap.size ≤ wq.heap.size) : InNew w w6 v := fun a n c e => ⟨Nat.le_trans hs (h a n c e).1, (h a n c e).2⟩
theorem below_drewN' (B : Nat) (w : World) (n : Nat) : Below B w (w.drewN n) := ⟨rfl, rfl, rfl, Nat.le_refl _, fun _ _ => rfl⟩
theorem put_end {w w2 wq w6 : World} {v6 : Value} {l d : List SkM.E} {s : ByteArray} {x : Int} {k : Nat} {b : Bool} (own : SRow w6 wq.heap.size v6 (d.take k ++ [(s.data.toList, x)] ++ d.drop k)) (cut : SkM.put l s.data.toList x = d.take k ++ (s.data.toList, x) :: d.drop k) (nb : (SkM.get l s.data.toList).isSome = b) (h2 : Below w.heap.size w w2) (hq : Below w2.heap.size w2 wq) (h6 : Below w2.heap.size w2 w6) :
    (∃ v', Ending.returned (.tuple #[v6, .bool (!b)]) = .returned (.tuple #[v', .bool (SkM.get l s.data.toList).isNone]) ∧ SList w6 v' (SkM.put l s.data.toList x) ∧ InNew w w6 v') ∧ Below w.heap.size w w6 := by
  refine ⟨⟨v6, ?_, ?_, own.fresh.wider (Nat.le_trans h2.size hq.size)⟩, below_then h2 h6⟩
  · rw [← nb]
    cases SkM.get l s.data.toList <;> rfl
  · rw [cut]
    have := own.list
    rw [List.append_assoc] at this
    exact this
set_option maxRecDepth 20000 in
set_option maxHeartbeats 8000000 in
theorem put_ref (w : World) (v : Value) (l : List SkM.E) (h : SList w v l) (h9 : l.length ≤ 999) (ok : SkM.Ok l) (s : ByteArray) (x : Int) :
    Calls Tryd.prog 9 #[v, .agg #[.string s, .int .i64 x]] w fun e w' => (∃ v', e = .returned (.tuple #[v', .bool (SkM.get l s.data.toList).isNone]) ∧ SList w' v' (SkM.put l s.data.toList x) ∧ InNew w w' v') ∧ Below w.heap.size w w' := by
  obtain ⟨w1, hw1⟩ : ∃ w1, w.alloc (.cells #[.string s, .int .i64 x] 30) = w1 := ⟨_, rfl⟩
  have al1 : Below w.heap.size w w1 := by rw [← hw1]; exact (Below.refl _ w).alloc (Nat.le_refl _) _
  have x0 : w1.cell? ⟨w.heap.size, 0, none⟩ = some (.string s) := by rw [← hw1, World.cell?_alloc_new]; rfl
  have x1 : w1.cell? ⟨w.heap.size, 1, none⟩ = some (.int .i64 x) := by rw [← hw1, World.cell?_alloc_new]; rfl
  have DEL := Lib.hid (del_ref w1 v l (h.keep al1) (by omega) ok.names s)
  have AL1 := Lib.hid al1
  have OKD := Lib.hid (ok.del s.data.toList)
  have L9 : Hid ((SkM.del l s.data.toList).length ≤ 999) := by show _ ≤ _; have := (SkM.del_sub l s.data.toList).length_le; omega
  have PUTD : Hid (SkM.put l s.data.toList x = SkM.ins (s.data.toList, x) (SkM.del l s.data.toList)) := rfl
  obtain ⟨d, hd⟩ : ∃ d, SkM.del l s.data.toList = d := ⟨_, rfl⟩
  obtain ⟨b, hb⟩ : ∃ b, (SkM.get l s.data.toList).isSome = b := ⟨_, rfl⟩
  have NB := Lib.hid hb
  rw [hd] at DEL OKD L9 PUTD
  rw [hb] at DEL
  have X1 : Hid (∀ W, Below w1.heap.size w1 W → W.cell? ⟨w.heap.size, 0, none⟩ = some (.string s) ∧ W.cell? ⟨w.heap.size, 1, none⟩ = some (.int .i64 x)) := fun W hW => ⟨(hW.cell (p := ⟨w.heap.size, 0, none⟩) (cell_in x0)).trans x0, (hW.cell (p := ⟨w.heap.size, 1, none⟩) (cell_in x1)).trans x1⟩
  have HW1 := Lib.hid hw1
  clear h h9 ok al1 hd hb hw1
  go_enter Tryd.func9, Tryd.ntmps9
  go_wp2_with fail
  rw [HW1.out]
  go_at_call 11
  refine DEL.out.mono ?_
  rintro e w2 ⟨⟨v2, rfl, h2, -⟩, hb2⟩
  have HB2 := Lib.hid hb2
  have X : Hid (∀ W, Below w2.heap.size w2 W → W.cell? ⟨w.heap.size, 0, none⟩ = some (.string s) ∧ W.cell? ⟨w.heap.size, 1, none⟩ = some (.int .i64 x)) := fun W hW => X1.out W (below_then hb2 hW)
  have SK := Lib.hid h2
  obtain ⟨A, c, rfl, hA, hc, hr⟩ := h2
  have HR := Lib.hid hr
  obtain ⟨m, hm⟩ : ∃ m, d.length = m := ⟨_, rfl⟩
  have LN : Hid (d.length = m ∧ m ≤ 999) := by have := L9.out; rw [hm] at this; exact ⟨hm, this⟩
  rw [hm] at hc SK ⊢
  have m9 : (m : Int) ≤ 999 := by have := LN.out; omega
  have m0 : (0 : Int) ≤ (m : Int) := by omega
  have mc : (m : Int) ≤ (c : Int) := by omega
  have HA := Lib.hid hA
  clear hb2 hr hm hA hc L9 DEL X1 x0 x1
  go_wp2_with fail
  go_loopw [7] (fun i wr => ∃ k : Nat, k ≤ m ∧ i = .int .i64 (k : Int) ∧ (∀ j (hj : j < d.length), j < k → SkM.lt d[j] (s.data.toList, x)) ∧ Below w2.heap.size w2 wr) (fun i _ => m - (intOf i).toNat)
  case atStart => exact ⟨0, Nat.zero_le _, rfl, (fun j hj h => absurd h (Nat.not_lt_zero _)), Below.refl _ _⟩
  case round =>
    obtain ⟨k, hk, rfl, hlts, hbr⟩ := hrel
    have LTS := Lib.hid hlts
    have BR := Lib.hid hbr
    have k0 : (0 : Int) ≤ (k : Int) := by omega
    have k9 : (k : Int) ≤ 999 := by omega
    have km : (k : Int) ≤ (m : Int) := by omega
    have kc : (k : Int) ≤ (c : Int) := by omega
    have KM := Lib.hid hk
    clear hlts hbr
    by_cases hlt : k < m
    · have k1 : (k : Int) < (m : Int) := by omega
      have hkl : k < d.length := by rw [LN.out.1]; exact hlt
      obtain ⟨a, rfl, ha, e0, e1⟩ := HR.out k hkl
      obtain ⟨nm, hnm⟩ : ∃ nm : ByteArray, (⟨d[k].1.toArray⟩ : ByteArray) = nm := ⟨_, rfl⟩
      obtain ⟨y, hy⟩ : ∃ y, d[k].2 = y := ⟨_, rfl⟩
      rw [hnm] at e0
      rw [hy] at e1
      have NM : Hid (d[k] = (nm.data.toList, y)) := by show d[k] = (nm.data.toList, y); rw [← hnm, ← hy]
      have S0 : Hid (∀ W, Below wr.heap.size wr W → Below wr.heap.size wr W ∧ W.cell? (a.add (k * 2)) = some (.string nm) ∧ W.cell? ⟨(a.add (k * 2)).block, (a.add (k * 2)).off + 1, none⟩ = some (.int .i64 y) ∧ W.cell? ⟨w.heap.size, 0, none⟩ = some (.string s) ∧ W.cell? ⟨w.heap.size, 1, none⟩ = some (.int .i64 x)) := fun W hW => by
        have hW2 := below_then BR.out hW
        obtain ⟨c0, c1⟩ := X.out W hW2
        exact ⟨hW, (hW2.cell (p := a.add (k * 2)) (by rw [add_block]; exact ha)).trans e0, (hW2.cell (p := ⟨(a.add (k * 2)).block, (a.add (k * 2)).off + 1, none⟩) (by show (a.add (k * 2)).block < _; rw [add_block]; exact ha)).trans e1, c0, c1⟩
      have S1 : Hid (Below wr.heap.size wr wr.drew ∧ wr.drew.cell? (a.add (k * 2)) = some (.string nm) ∧ wr.drew.cell? ⟨(a.add (k * 2)).block, (a.add (k * 2)).off + 1, none⟩ = some (.int .i64 y) ∧ wr.drew.cell? ⟨w.heap.size, 0, none⟩ = some (.string s) ∧ wr.drew.cell? ⟨w.heap.size, 1, none⟩ = some (.int .i64 x)) := S0.out _ ((Below.refl _ wr).drew)
      have KEEP : Hid (∀ W W', Below W.heap.size W W' → (Below wr.heap.size wr W ∧ W.cell? (a.add (k * 2)) = some (.string nm) ∧ W.cell? ⟨(a.add (k * 2)).block, (a.add (k * 2)).off + 1, none⟩ = some (.int .i64 y) ∧ W.cell? ⟨w.heap.size, 0, none⟩ = some (.string s) ∧ W.cell? ⟨w.heap.size, 1, none⟩ = some (.int .i64 x)) → (Below wr.heap.size wr W' ∧ W'.cell? (a.add (k * 2)) = some (.string nm) ∧ W'.cell? ⟨(a.add (k * 2)).block, (a.add (k * 2)).off + 1, none⟩ = some (.int .i64 y) ∧ W'.cell? ⟨w.heap.size, 0, none⟩ = some (.string s) ∧ W'.cell? ⟨w.heap.size, 1, none⟩ = some (.int .i64 x))) := fun W W' hb h => S0.out _ (below_then h.1 hb)
      have SKQ := SK
      have HLT := Lib.hid hlt
      have HKL := Lib.hid hkl
      obtain ⟨D, hD⟩ : ∃ D, decide (SkM.lt (nm.data.toList, y) (s.data.toList, x)) = D := ⟨_, rfl⟩
      have AB : Hid (∀ W, Calls Tryd.prog 25 #[.agg #[.string s, .int .i64 x], .agg #[.string nm, .int .i64 y]] W fun e w' => e = .returned (.bool D) ∧ Below W.heap.size W w') := fun W => by
        have := above_any W s nm x y
        rw [hD] at this
        exact this
      have HD := Lib.hid hD
      clear hnm hy ha hlt hD e0 e1 SK
      go_wp2_with fail
      go_region_held3 (fun W => Below wr.heap.size wr W ∧ W.cell? (a.add (k * 2)) = some (.string nm) ∧ W.cell? ⟨(a.add (k * 2)).block, (a.add (k * 2)).off + 1, none⟩ = some (.int .i64 y) ∧ W.cell? ⟨w.heap.size, 0, none⟩ = some (.string s) ∧ W.cell? ⟨w.heap.size, 1, none⟩ = some (.int .i64 x)) (first | exact S1.out | exact KEEP.out _ _ (by assumption) (by assumption) | assumption) (first
        | (go_at_call 25; with_reducible refine (AB.out _).mono ?_; rintro e wq ⟨rfl, hb⟩))
      have SE : Below wr.heap.size wr wq ∧ wq.cell? (a.add (k * 2)) = some (.string nm) ∧ wq.cell? ⟨(a.add (k * 2)).block, (a.add (k * 2)).off + 1, none⟩ = some (.int .i64 y) ∧ wq.cell? ⟨w.heap.size, 0, none⟩ = some (.string s) ∧ wq.cell? ⟨w.heap.size, 1, none⟩ = some (.int .i64 x) := by assumption
      have HBQ := Lib.hid (below_then BR.out SE.1)
      clear SE S0 S1 KEEP AB
      have SKQ : Hid (SList wq (.slice (some a) m c) d) := SKQ.out.keep HBQ.out
      cases D with
      | true =>
        have LT : Hid (SkM.lt (nm.data.toList, y) (s.data.toList, x)) := by show SkM.lt _ _; exact of_decide_eq_true HD.out
        go_wp2_with fail
        exact ⟨⟨k + 1, HLT.out, by go_num, (fun j hj hjk => by
          by_cases z : j = k
          · subst z; rw [NM.out]; exact LT.out
          · exact LTS.out j hj (by omega)), HBQ.out⟩, by have := HLT.out; simp [intOf]; omega⟩
      | false =>
        have CUTP : Hid (SkM.put l s.data.toList x = d.take k ++ (s.data.toList, x) :: d.drop k) := by
          show _ = _
          rw [PUTD.out]
          exact put_cut OKD.out _ k (Nat.le_of_lt HKL.out) LTS.out (fun _ => by rw [NM.out]; exact of_decide_eq_false HD.out)
        go_wp2_with fail
        refine wp_region_held_drew (S := fun W => Below wq.heap.size wq W) (by kernel_rfl) (Below.refl _ _).drew (fun hHeld => ?_)
        refine wpAnyH_take (i := 1) (v := ?_) rfl (by kernel_rfl) (by kernel_rfl) (by kernel_rfl) (fun _ _ _ h => h) (Or.inl ⟨by rfl, ?_⟩) hHeld ?_
        rotate_left
        · intro W hSw; obtain ⟨y0, y1⟩ := X.out W (below_then HBQ.out hSw); go_simp; try with_reducible rfl
        refine wpAnyH_take (i := 2) (v := ?_) rfl (by kernel_rfl) (by kernel_rfl) (by kernel_rfl) (fun _ _ _ h => h) (Or.inl ⟨by rfl, ?_⟩) hHeld ?_
        rotate_left
        · intro W hSw; obtain ⟨y0, y1⟩ := X.out W (below_then HBQ.out hSw); go_simp; try with_reducible rfl
        refine wpAnyH_take (i := 3) (v := ?_) rfl (by kernel_rfl) (by kernel_rfl) (by kernel_rfl) (fun _ _ _ h => h) (Or.inl ⟨by rfl, ?_⟩) hHeld ?_
        rotate_left
        · intro W hSw; obtain ⟨y0, y1⟩ := X.out W (below_then HBQ.out hSw); go_simp; try with_reducible rfl
        refine wpAnyH_take (i := 5) (v := ?_) rfl (by kernel_rfl) (by kernel_rfl) (by kernel_rfl) (fun _ _ _ h => h) (Or.inl ⟨by rfl, ?_⟩) hHeld ?_
        rotate_left
        · intro W hSw; obtain ⟨y0, y1⟩ := X.out W (below_then HBQ.out hSw); go_simp; try with_reducible rfl
        refine wpAnyH_take (i := 8) (v := ?_) rfl (by kernel_rfl) (by kernel_rfl) (by kernel_rfl) (fun _ _ _ h => h) (Or.inl ⟨by rfl, ?_⟩) hHeld ?_
        rotate_left
        · intro W hSw; obtain ⟨y0, y1⟩ := X.out W (below_then HBQ.out hSw); go_simp; try with_reducible rfl
        refine wpAnyH_take (i := 9) (v := ?_) rfl (by kernel_rfl) (by kernel_rfl) (by kernel_rfl) (fun _ _ _ h => h) (Or.inl ⟨by rfl, ?_⟩) hHeld ?_
        rotate_left
        · intro W hSw; obtain ⟨y0, y1⟩ := X.out W (below_then HBQ.out hSw); go_simp; try with_reducible rfl
        refine wpAnyH_take (i := 10) (v := ?_) rfl (by kernel_rfl) (by kernel_rfl) (by kernel_rfl) (fun _ _ _ h => h) (Or.inl ⟨by rfl, ?_⟩) hHeld ?_
        rotate_left
        · intro W hSw; obtain ⟨y0, y1⟩ := X.out W (below_then HBQ.out hSw); go_simp; try with_reducible rfl
        refine wpAnyH_take (i := 12) (v := ?_) rfl (by kernel_rfl) (by kernel_rfl) (by kernel_rfl) (fun _ _ _ h => h) (Or.inl ⟨by rfl, ?_⟩) hHeld ?_
        rotate_left
        · intro W hSw; obtain ⟨y0, y1⟩ := X.out W (below_then HBQ.out hSw); go_simp; try with_reducible rfl
        refine wpAnyH_take (i := 13) (v := ?_) rfl (by kernel_rfl) (by kernel_rfl) (by kernel_rfl) (fun _ _ _ h => h) (Or.inl ⟨by rfl, ?_⟩) hHeld ?_
        rotate_left
        · intro W hSw; obtain ⟨y0, y1⟩ := X.out W (below_then HBQ.out hSw); go_simp; try with_reducible rfl
        clear hHeld
        obtain ⟨W1, hW1⟩ : ∃ W1, wq.drew = W1 := ⟨_, rfl⟩
        have BW1 : Below wq.heap.size wq W1 := by rw [← hW1]; exact (Below.refl _ wq).drew
        rw [hW1]
        clear hW1
        refine wpAnyH_ready (rs := [0, 6]) (by kernel_rfl) (by simp) ?_
        refine AllReadyH.cons rfl (fun K hK => ?_) (AllReadyH.cons rfl (fun K hK => ?_) AllReadyH.nil)
        · go_simp
          obtain ⟨W2, hW2⟩ : ∃ W2, W1.alloc (.cells #[] 30) = W2 := ⟨_, rfl⟩
          have al2 : Below W1.heap.size W1 W2 := by rw [← hW2]; exact (Below.refl _ W1).alloc (Nat.le_refl _) _
          have sz2 : Hid (W2.heap.size = W1.heap.size + 1) := by show _ = _; rw [← hW2]; simp
          have BW2 : Below wq.heap.size wq W2 := below_then BW1 al2
          have own2 : SRow W2 wq.heap.size (.slice (some ⟨W1.heap.size, 0, none⟩) 0 0) [] := by rw [← hW2]; exact srow_new W1 _ BW1.size
          rw [hW2]
          refine hK.out _ _ BW2 (fun _ => ?_)
          clear hK K hW2 al2
          refine wpAnyH_ready (rs := [4, 6]) (by kernel_rfl) (by simp) ?_
          refine AllReadyH.cons rfl (fun K hK => ?_) (AllReadyH.cons rfl (fun K hK => ?_) AllReadyH.nil)
          · refine step_append_scores rfl (.tmp 29) (.tmp 32) rfl wq _ [] rfl own2 _ (d.take k) rfl ((SKQ.out.front k (by have := LN.out; have := KM.out; omega)).keep BW2) (by have := LN.out; rw [List.length_take]; simp only [List.length_nil]; omega) BW2 ?_
            intro v3 W3 own3 BW3 far3
            rw [List.nil_append] at own3
            have sz3 := Lib.hid far3.1
            refine hK.out _ _ BW3 (fun _ => ?_)
            clear hK K
            refine wpAnyH_ready (rs := [6]) (by kernel_rfl) (by simp) ?_
            refine AllReadyH.cons rfl (fun K hK => ?_) AllReadyH.nil
            go_simp
            obtain ⟨W4, hW4⟩ : ∃ W4, W3.alloc (.cells #[.string s, .int .i64 x] 30) = W4 := ⟨_, rfl⟩
            have al4 : Below W3.heap.size W3 W4 := by rw [← hW4]; exact (Below.refl _ W3).alloc (Nat.le_refl _) _
            have sz4 : Hid (W4.heap.size = W3.heap.size + 1) := by show _ = _; rw [← hW4]; simp
            have BW4 : Below wq.heap.size wq W4 := below_then BW3 al4
            have one4 : SList W4 (.slice (some ⟨W3.heap.size, 0, none⟩) 1 1) [(s.data.toList, x)] := by rw [← hW4]; exact one_list W3 s x
            have own4 := SRow.keep own3 al4
            rw [hW4]
            refine hK.out _ _ BW4 (fun _ => ?_)
            clear hK K hW4 al4
            refine wpAnyH_ready (rs := [7]) (by kernel_rfl) (by simp) ?_
            refine AllReadyH.cons rfl (fun K hK => ?_) AllReadyH.nil
            refine step_append_scores rfl (.tmp 33) (.tmp 35) rfl wq v3 (d.take k) rfl own4 _ [(s.data.toList, x)] rfl one4 (by have := LN.out; rw [List.length_take]; simp only [List.length_cons, List.length_nil]; omega) BW4 ?_
            intro v5 W5 own5 BW5 _
            refine hK.out _ _ BW5 (fun _ => ?_)
            clear hK K
            refine wpAnyH_ready (rs := [11]) (by kernel_rfl) (by simp) ?_
            refine AllReadyH.cons rfl (fun K hK => ?_) AllReadyH.nil
            refine step_append_scores rfl (.tmp 36) (.tmp 39) rfl wq v5 _ rfl own5 _ (d.drop k) rfl ((SKQ.out.behind k (by have := LN.out; have := KM.out; omega)).keep BW5) (by have := LN.out; rw [List.length_append, List.length_take, List.length_drop]; simp only [List.length_cons, List.length_nil]; omega) BW5 ?_
            intro v6 W6 own6 BW6 _
            refine hK.out _ _ BW6 (fun hHeld6 => ?_)
            clear hK K
            refine wpAnyH_take (i := 14) (v := ?_) rfl (by kernel_rfl) (by kernel_rfl) (by kernel_rfl) (fun _ _ _ h => h) (Or.inl ⟨by rfl, ?_⟩) hHeld6 ?_
            rotate_left
            · intro W hSw; obtain ⟨y0, y1⟩ := X.out W (below_then HBQ.out hSw); go_simp; try with_reducible rfl
            refine wpAnyH_take (i := 15) (v := ?_) rfl (by kernel_rfl) (by kernel_rfl) (by kernel_rfl) (fun _ _ _ h => h) (Or.inl ⟨by rfl, ?_⟩) hHeld6 ?_
            rotate_left
            · intro W hSw; obtain ⟨y0, y1⟩ := X.out W (below_then HBQ.out hSw); go_simp; try with_reducible rfl
            refine wpAnyH_done (by kernel_rfl) ?_ _
            have OWN6 := Lib.hid own6
            have BWH6 := Lib.hid (below_then HBQ.out BW6)
            clear own6 BW6 hHeld6 own5 BW5
            go_wp2_with fail
            all_goals go_ret2
            all_goals exact put_end OWN6.out CUTP.out NB.out (below_then AL1.out HB2.out) HBQ.out BWH6.out
          · go_simp
            obtain ⟨W7, hW7⟩ : ∃ W7, W2.alloc (.cells #[.string s, .int .i64 x] 30) = W7 := ⟨_, rfl⟩
            have al7 : Below W2.heap.size W2 W7 := by rw [← hW7]; exact (Below.refl _ W2).alloc (Nat.le_refl _) _
            have sz7 : Hid (W7.heap.size = W2.heap.size + 1) := by show _ = _; rw [← hW7]; simp
            have BW7 : Below wq.heap.size wq W7 := below_then BW2 al7
            have one7 : SList W7 (.slice (some ⟨W2.heap.size, 0, none⟩) 1 1) [(s.data.toList, x)] := by rw [← hW7]; exact one_list W2 s x
            have own7 := SRow.keep own2 al7
            rw [hW7]
            refine hK.out _ _ BW7 (fun _ => ?_)
            clear hK K hW7 al7
            refine wpAnyH_ready (rs := [4]) (by kernel_rfl) (by simp) ?_
            refine AllReadyH.cons rfl (fun K hK => ?_) AllReadyH.nil
            refine step_append_scores rfl (.tmp 29) (.tmp 32) rfl wq _ [] rfl own7 _ (d.take k) rfl ((SKQ.out.front k (by have := LN.out; have := KM.out; omega)).keep BW7) (by have := LN.out; rw [List.length_take]; simp only [List.length_nil]; omega) BW7 ?_
            intro v8 W8 own8 BW8 far8
            rw [List.nil_append] at own8
            have one8 := SList.same one7 (far8.2 _ (by show W2.heap.size < _; have := sz2.out; have := sz7.out; omega) (fun e => by injection e with e; have e : W1.heap.size = W2.heap.size := e; have := sz2.out; have := sz7.out; omega)) far8.1
            have sz8 := Lib.hid far8.1
            refine hK.out _ _ BW8 (fun _ => ?_)
            clear hK K
            refine wpAnyH_ready (rs := [7]) (by kernel_rfl) (by simp) ?_
            refine AllReadyH.cons rfl (fun K hK => ?_) AllReadyH.nil
            refine step_append_scores rfl (.tmp 33) (.tmp 35) rfl wq v8 (d.take k) rfl own8 _ [(s.data.toList, x)] rfl one8 (by have := LN.out; rw [List.length_take]; simp only [List.length_cons, List.length_nil]; omega) BW8 ?_
            intro v9 W9 own9 BW9 _
            refine hK.out _ _ BW9 (fun _ => ?_)
            clear hK K
            refine wpAnyH_ready (rs := [11]) (by kernel_rfl) (by simp) ?_
            refine AllReadyH.cons rfl (fun K hK => ?_) AllReadyH.nil
            refine step_append_scores rfl (.tmp 36) (.tmp 39) rfl wq v9 _ rfl own9 _ (d.drop k) rfl ((SKQ.out.behind k (by have := LN.out; have := KM.out; omega)).keep BW9) (by have := LN.out; rw [List.length_append, List.length_take, List.length_drop]; simp only [List.length_cons, List.length_nil]; omega) BW9 ?_
            intro v10 W10 own10 BW10 _
            refine hK.out _ _ BW10 (fun hHeld10 => ?_)
            clear hK K
            refine wpAnyH_take (i := 14) (v := ?_) rfl (by kernel_rfl) (by kernel_rfl) (by kernel_rfl) (fun _ _ _ h => h) (Or.inl ⟨by rfl, ?_⟩) hHeld10 ?_
            rotate_left
            · intro W hSw; obtain ⟨y0, y1⟩ := X.out W (below_then HBQ.out hSw); go_simp; try with_reducible rfl
            refine wpAnyH_take (i := 15) (v := ?_) rfl (by kernel_rfl) (by kernel_rfl) (by kernel_rfl) (fun _ _ _ h => h) (Or.inl ⟨by rfl, ?_⟩) hHeld10 ?_
            rotate_left
            · intro W hSw; obtain ⟨y0, y1⟩ := X.out W (below_then HBQ.out hSw); go_simp; try with_reducible rfl
            refine wpAnyH_done (by kernel_rfl) ?_ _
            have OWN10 := Lib.hid own10
            have BWH10 := Lib.hid (below_then HBQ.out BW10)
            clear own10 BW10 hHeld10 own9 BW9
            go_wp2_with fail
            all_goals go_ret2
            all_goals exact put_end OWN10.out CUTP.out NB.out (below_then AL1.out HB2.out) HBQ.out BWH10.out
        · go_simp
          obtain ⟨W11, hW11⟩ : ∃ W11, W1.alloc (.cells #[.string s, .int .i64 x] 30) = W11 := ⟨_, rfl⟩
          have al11 : Below W1.heap.size W1 W11 := by rw [← hW11]; exact (Below.refl _ W1).alloc (Nat.le_refl _) _
          have sz11 : Hid (W11.heap.size = W1.heap.size + 1) := by show _ = _; rw [← hW11]; simp
          have BW11 : Below wq.heap.size wq W11 := below_then BW1 al11
          have one11 : SList W11 (.slice (some ⟨W1.heap.size, 0, none⟩) 1 1) [(s.data.toList, x)] := by rw [← hW11]; exact one_list W1 s x
          rw [hW11]
          refine hK.out _ _ BW11 (fun _ => ?_)
          clear hK K hW11 al11
          refine wpAnyH_ready (rs := [0]) (by kernel_rfl) (by simp) ?_
          refine AllReadyH.cons rfl (fun K hK => ?_) AllReadyH.nil
          go_simp
          obtain ⟨W12, hW12⟩ : ∃ W12, W11.alloc (.cells #[] 30) = W12 := ⟨_, rfl⟩
          have al12 : Below W11.heap.size W11 W12 := by rw [← hW12]; exact (Below.refl _ W11).alloc (Nat.le_refl _) _
          have sz12 : Hid (W12.heap.size = W11.heap.size + 1) := by show _ = _; rw [← hW12]; simp
          have BW12 : Below wq.heap.size wq W12 := below_then BW11 al12
          have own12 : SRow W12 wq.heap.size (.slice (some ⟨W11.heap.size, 0, none⟩) 0 0) [] := by rw [← hW12]; exact srow_new W11 _ BW11.size
          have one12 := SList.keep one11 al12
          rw [hW12]
          refine hK.out _ _ BW12 (fun _ => ?_)
          clear hK K hW12 al12
          refine wpAnyH_ready (rs := [4]) (by kernel_rfl) (by simp) ?_
          refine AllReadyH.cons rfl (fun K hK => ?_) AllReadyH.nil
          refine step_append_scores rfl (.tmp 29) (.tmp 32) rfl wq _ [] rfl own12 _ (d.take k) rfl ((SKQ.out.front k (by have := LN.out; have := KM.out; omega)).keep BW12) (by have := LN.out; rw [List.length_take]; simp only [List.length_nil]; omega) BW12 ?_
          intro v13 W13 own13 BW13 far13
          rw [List.nil_append] at own13
          have one13 := SList.same one12 (far13.2 _ (by show W1.heap.size < _; have := sz11.out; have := sz12.out; omega) (fun e => by injection e with e; have e : W11.heap.size = W1.heap.size := e; have := sz11.out; have := sz12.out; omega)) far13.1
          have sz13 := Lib.hid far13.1
          refine hK.out _ _ BW13 (fun _ => ?_)
          clear hK K
          refine wpAnyH_ready (rs := [7]) (by kernel_rfl) (by simp) ?_
          refine AllReadyH.cons rfl (fun K hK => ?_) AllReadyH.nil
          refine step_append_scores rfl (.tmp 33) (.tmp 35) rfl wq v13 (d.take k) rfl own13 _ [(s.data.toList, x)] rfl one13 (by have := LN.out; rw [List.length_take]; simp only [List.length_cons, List.length_nil]; omega) BW13 ?_
          intro v14 W14 own14 BW14 _
          refine hK.out _ _ BW14 (fun _ => ?_)
          clear hK K
          refine wpAnyH_ready (rs := [11]) (by kernel_rfl) (by simp) ?_
          refine AllReadyH.cons rfl (fun K hK => ?_) AllReadyH.nil
          refine step_append_scores rfl (.tmp 36) (.tmp 39) rfl wq v14 _ rfl own14 _ (d.drop k) rfl ((SKQ.out.behind k (by have := LN.out; have := KM.out; omega)).keep BW14) (by have := LN.out; rw [List.length_append, List.length_take, List.length_drop]; simp only [List.length_cons, List.length_nil]; omega) BW14 ?_
          intro v15 W15 own15 BW15 _
          refine hK.out _ _ BW15 (fun hHeld15 => ?_)
          clear hK K
          refine wpAnyH_take (i := 14) (v := ?_) rfl (by kernel_rfl) (by kernel_rfl) (by kernel_rfl) (fun _ _ _ h => h) (Or.inl ⟨by rfl, ?_⟩) hHeld15 ?_
          rotate_left
          · intro W hSw; obtain ⟨y0, y1⟩ := X.out W (below_then HBQ.out hSw); go_simp; try with_reducible rfl
          refine wpAnyH_take (i := 15) (v := ?_) rfl (by kernel_rfl) (by kernel_rfl) (by kernel_rfl) (fun _ _ _ h => h) (Or.inl ⟨by rfl, ?_⟩) hHeld15 ?_
          rotate_left
          · intro W hSw; obtain ⟨y0, y1⟩ := X.out W (below_then HBQ.out hSw); go_simp; try with_reducible rfl
          refine wpAnyH_done (by kernel_rfl) ?_ _
          have OWN15 := Lib.hid own15
          have BWH15 := Lib.hid (below_then HBQ.out BW15)
          clear own15 BW15 hHeld15 own14 BW14
          go_wp2_with fail
          all_goals go_ret2
          all_goals exact put_end OWN15.out CUTP.out NB.out (below_then AL1.out HB2.out) HBQ.out BWH15.out
    · have mk : m = k := by omega
      subst mk
      have kd : decide ((m : Int) < (m : Int)) = false := decide_eq_false (by omega)
      have kn : decide (m < m) = false := decide_eq_false (by omega)
      have CUTP : Hid (SkM.put l s.data.toList x = d.take m ++ (s.data.toList, x) :: d.drop m) := by
        show _ = _
        rw [PUTD.out]
        exact put_cut OKD.out _ m (by have := LN.out; omega) LTS.out (fun hk => by have := LN.out; omega)
      clear hlt hk
      cases A with
      | none =>
        obtain rfl := HA.out rfl
        obtain rfl : m = 0 := by omega
        go_wp2_with fail
        go_quiet (fail)
        obtain ⟨wq, hwq⟩ : ∃ wq, wr.drewN nq = wq := ⟨_, rfl⟩
        have HBQ : Hid (Below w2.heap.size w2 wq) := by rw [← hwq]; exact below_then BR.out (below_drewN' _ wr nq)
        go_wp2_with fail
        try rw [hwq]
        clear hwq
        refine wp_region_held_drew (S := fun W => Below wq.heap.size wq W) (by kernel_rfl) (Below.refl _ _).drew (fun hHeld => ?_)
        refine wpAnyH_take (i := 1) (v := ?_) rfl (by kernel_rfl) (by kernel_rfl) (by kernel_rfl) (fun _ _ _ h => h) (Or.inl ⟨by rfl, ?_⟩) hHeld ?_
        rotate_left
        · intro W hSw; obtain ⟨y0, y1⟩ := X.out W (below_then HBQ.out hSw); go_simp; try with_reducible rfl
        refine wpAnyH_take (i := 2) (v := ?_) rfl (by kernel_rfl) (by kernel_rfl) (by kernel_rfl) (fun _ _ _ h => h) (Or.inl ⟨by rfl, ?_⟩) hHeld ?_
        rotate_left
        · intro W hSw; obtain ⟨y0, y1⟩ := X.out W (below_then HBQ.out hSw); go_simp; try with_reducible rfl
        refine wpAnyH_take (i := 3) (v := ?_) rfl (by kernel_rfl) (by kernel_rfl) (by kernel_rfl) (fun _ _ _ h => h) (Or.inl ⟨by rfl, ?_⟩) hHeld ?_
        rotate_left
        · intro W hSw; obtain ⟨y0, y1⟩ := X.out W (below_then HBQ.out hSw); go_simp; try with_reducible rfl
        refine wpAnyH_take (i := 5) (v := ?_) rfl (by kernel_rfl) (by kernel_rfl) (by kernel_rfl) (fun _ _ _ h => h) (Or.inl ⟨by rfl, ?_⟩) hHeld ?_
        rotate_left
        · intro W hSw; obtain ⟨y0, y1⟩ := X.out W (below_then HBQ.out hSw); go_simp; try with_reducible rfl
        refine wpAnyH_take (i := 8) (v := ?_) rfl (by kernel_rfl) (by kernel_rfl) (by kernel_rfl) (fun _ _ _ h => h) (Or.inl ⟨by rfl, ?_⟩) hHeld ?_
        rotate_left
        · intro W hSw; obtain ⟨y0, y1⟩ := X.out W (below_then HBQ.out hSw); go_simp; try with_reducible rfl
        refine wpAnyH_take (i := 9) (v := ?_) rfl (by kernel_rfl) (by kernel_rfl) (by kernel_rfl) (fun _ _ _ h => h) (Or.inl ⟨by rfl, ?_⟩) hHeld ?_
        rotate_left
        · intro W hSw; obtain ⟨y0, y1⟩ := X.out W (below_then HBQ.out hSw); go_simp; try with_reducible rfl
        refine wpAnyH_take (i := 10) (v := ?_) rfl (by kernel_rfl) (by kernel_rfl) (by kernel_rfl) (fun _ _ _ h => h) (Or.inl ⟨by rfl, ?_⟩) hHeld ?_
        rotate_left
        · intro W hSw; obtain ⟨y0, y1⟩ := X.out W (below_then HBQ.out hSw); go_simp; try with_reducible rfl
        refine wpAnyH_take (i := 12) (v := ?_) rfl (by kernel_rfl) (by kernel_rfl) (by kernel_rfl) (fun _ _ _ h => h) (Or.inl ⟨by rfl, ?_⟩) hHeld ?_
        rotate_left
        · intro W hSw; obtain ⟨y0, y1⟩ := X.out W (below_then HBQ.out hSw); go_simp; try with_reducible rfl
        refine wpAnyH_take (i := 13) (v := ?_) rfl (by kernel_rfl) (by kernel_rfl) (by kernel_rfl) (fun _ _ _ h => h) (Or.inl ⟨by rfl, ?_⟩) hHeld ?_
        rotate_left
        · intro W hSw; obtain ⟨y0, y1⟩ := X.out W (below_then HBQ.out hSw); go_simp; try with_reducible rfl
        clear hHeld
        obtain ⟨W16, hW16⟩ : ∃ W16, wq.drew = W16 := ⟨_, rfl⟩
        have BW16 : Below wq.heap.size wq W16 := by rw [← hW16]; exact (Below.refl _ wq).drew
        rw [hW16]
        clear hW16
        refine wpAnyH_ready (rs := [0, 6]) (by kernel_rfl) (by simp) ?_
        refine AllReadyH.cons rfl (fun K hK => ?_) (AllReadyH.cons rfl (fun K hK => ?_) AllReadyH.nil)
        · go_simp
          obtain ⟨W17, hW17⟩ : ∃ W17, W16.alloc (.cells #[] 30) = W17 := ⟨_, rfl⟩
          have al17 : Below W16.heap.size W16 W17 := by rw [← hW17]; exact (Below.refl _ W16).alloc (Nat.le_refl _) _
          have sz17 : Hid (W17.heap.size = W16.heap.size + 1) := by show _ = _; rw [← hW17]; simp
          have BW17 : Below wq.heap.size wq W17 := below_then BW16 al17
          have own17 : SRow W17 wq.heap.size (.slice (some ⟨W16.heap.size, 0, none⟩) 0 0) [] := by rw [← hW17]; exact srow_new W16 _ BW16.size
          rw [hW17]
          refine hK.out _ _ BW17 (fun _ => ?_)
          clear hK K hW17 al17
          refine wpAnyH_ready (rs := [4, 6]) (by kernel_rfl) (by simp) ?_
          refine AllReadyH.cons rfl (fun K hK => ?_) (AllReadyH.cons rfl (fun K hK => ?_) AllReadyH.nil)
          · refine step_append_scores rfl (.tmp 29) (.tmp 32) rfl wq _ [] rfl own17 _ (d.take 0) rfl ((sl_none wq (d.take 0) (by rw [List.length_take]; have := LN.out; omega)).keep BW17) (by have := LN.out; rw [List.length_take]; simp only [List.length_nil]; omega) BW17 ?_
            intro v18 W18 own18 BW18 far18
            rw [List.nil_append] at own18
            have sz18 := Lib.hid far18.1
            refine hK.out _ _ BW18 (fun _ => ?_)
            clear hK K
            refine wpAnyH_ready (rs := [6]) (by kernel_rfl) (by simp) ?_
            refine AllReadyH.cons rfl (fun K hK => ?_) AllReadyH.nil
            go_simp
            obtain ⟨W19, hW19⟩ : ∃ W19, W18.alloc (.cells #[.string s, .int .i64 x] 30) = W19 := ⟨_, rfl⟩
            have al19 : Below W18.heap.size W18 W19 := by rw [← hW19]; exact (Below.refl _ W18).alloc (Nat.le_refl _) _
            have sz19 : Hid (W19.heap.size = W18.heap.size + 1) := by show _ = _; rw [← hW19]; simp
            have BW19 : Below wq.heap.size wq W19 := below_then BW18 al19
            have one19 : SList W19 (.slice (some ⟨W18.heap.size, 0, none⟩) 1 1) [(s.data.toList, x)] := by rw [← hW19]; exact one_list W18 s x
            have own19 := SRow.keep own18 al19
            rw [hW19]
            refine hK.out _ _ BW19 (fun _ => ?_)
            clear hK K hW19 al19
            refine wpAnyH_ready (rs := [7]) (by kernel_rfl) (by simp) ?_
            refine AllReadyH.cons rfl (fun K hK => ?_) AllReadyH.nil
            refine step_append_scores rfl (.tmp 33) (.tmp 35) rfl wq v18 (d.take 0) rfl own19 _ [(s.data.toList, x)] rfl one19 (by have := LN.out; rw [List.length_take]; simp only [List.length_cons, List.length_nil]; omega) BW19 ?_
            intro v20 W20 own20 BW20 _
            refine hK.out _ _ BW20 (fun _ => ?_)
            clear hK K
            refine wpAnyH_ready (rs := [11]) (by kernel_rfl) (by simp) ?_
            refine AllReadyH.cons rfl (fun K hK => ?_) AllReadyH.nil
            refine step_append_scores rfl (.tmp 36) (.tmp 39) rfl wq v20 _ rfl own20 _ (d.drop 0) rfl ((sl_none wq (d.drop 0) (by rw [List.length_drop]; have := LN.out; omega)).keep BW20) (by have := LN.out; rw [List.length_append, List.length_take, List.length_drop]; simp only [List.length_cons, List.length_nil]; omega) BW20 ?_
            intro v21 W21 own21 BW21 _
            refine hK.out _ _ BW21 (fun hHeld21 => ?_)
            clear hK K
            refine wpAnyH_take (i := 14) (v := ?_) rfl (by kernel_rfl) (by kernel_rfl) (by kernel_rfl) (fun _ _ _ h => h) (Or.inl ⟨by rfl, ?_⟩) hHeld21 ?_
            rotate_left
            · intro W hSw; obtain ⟨y0, y1⟩ := X.out W (below_then HBQ.out hSw); go_simp; try with_reducible rfl
            refine wpAnyH_take (i := 15) (v := ?_) rfl (by kernel_rfl) (by kernel_rfl) (by kernel_rfl) (fun _ _ _ h => h) (Or.inl ⟨by rfl, ?_⟩) hHeld21 ?_
            rotate_left
            · intro W hSw; obtain ⟨y0, y1⟩ := X.out W (below_then HBQ.out hSw); go_simp; try with_reducible rfl
            refine wpAnyH_done (by kernel_rfl) ?_ _
            have OWN21 := Lib.hid own21
            have BWH21 := Lib.hid (below_then HBQ.out BW21)
            clear own21 BW21 hHeld21 own20 BW20
            go_wp2_with fail
            all_goals go_ret2
            all_goals exact put_end OWN21.out CUTP.out NB.out (below_then AL1.out HB2.out) HBQ.out BWH21.out
          · go_simp
            obtain ⟨W22, hW22⟩ : ∃ W22, W17.alloc (.cells #[.string s, .int .i64 x] 30) = W22 := ⟨_, rfl⟩
            have al22 : Below W17.heap.size W17 W22 := by rw [← hW22]; exact (Below.refl _ W17).alloc (Nat.le_refl _) _
            have sz22 : Hid (W22.heap.size = W17.heap.size + 1) := by show _ = _; rw [← hW22]; simp
            have BW22 : Below wq.heap.size wq W22 := below_then BW17 al22
            have one22 : SList W22 (.slice (some ⟨W17.heap.size, 0, none⟩) 1 1) [(s.data.toList, x)] := by rw [← hW22]; exact one_list W17 s x
            have own22 := SRow.keep own17 al22
            rw [hW22]
            refine hK.out _ _ BW22 (fun _ => ?_)
            clear hK K hW22 al22
            refine wpAnyH_ready (rs := [4]) (by kernel_rfl) (by simp) ?_
            refine AllReadyH.cons rfl (fun K hK => ?_) AllReadyH.nil
            refine step_append_scores rfl (.tmp 29) (.tmp 32) rfl wq _ [] rfl own22 _ (d.take 0) rfl ((sl_none wq (d.take 0) (by rw [List.length_take]; have := LN.out; omega)).keep BW22) (by have := LN.out; rw [List.length_take]; simp only [List.length_nil]; omega) BW22 ?_
            intro v23 W23 own23 BW23 far23
            rw [List.nil_append] at own23
            have one23 := SList.same one22 (far23.2 _ (by show W17.heap.size < _; have := sz17.out; have := sz22.out; omega) (fun e => by injection e with e; have e : W16.heap.size = W17.heap.size := e; have := sz17.out; have := sz22.out; omega)) far23.1
            have sz23 := Lib.hid far23.1
            refine hK.out _ _ BW23 (fun _ => ?_)
            clear hK K
            refine wpAnyH_ready (rs := [7]) (by kernel_rfl) (by simp) ?_
            refine AllReadyH.cons rfl (fun K hK => ?_) AllReadyH.nil
            refine step_append_scores rfl (.tmp 33) (.tmp 35) rfl wq v23 (d.take 0) rfl own23 _ [(s.data.toList, x)] rfl one23 (by have := LN.out; rw [List.length_take]; simp only [List.length_cons, List.length_nil]; omega) BW23 ?_
            intro v24 W24 own24 BW24 _
            refine hK.out _ _ BW24 (fun _ => ?_)
            clear hK K
            refine wpAnyH_ready (rs := [11]) (by kernel_rfl) (by simp) ?_
            refine AllReadyH.cons rfl (fun K hK => ?_) AllReadyH.nil
            refine step_append_scores rfl (.tmp 36) (.tmp 39) rfl wq v24 _ rfl own24 _ (d.drop 0) rfl ((sl_none wq (d.drop 0) (by rw [List.length_drop]; have := LN.out; omega)).keep BW24) (by have := LN.out; rw [List.length_append, List.length_take, List.length_drop]; simp only [List.length_cons, List.length_nil]; omega) BW24 ?_
            intro v25 W25 own25 BW25 _
            refine hK.out _ _ BW25 (fun hHeld25 => ?_)
            clear hK K
            refine wpAnyH_take (i := 14) (v := ?_) rfl (by kernel_rfl) (by kernel_rfl) (by kernel_rfl) (fun _ _ _ h => h) (Or.inl ⟨by rfl, ?_⟩) hHeld25 ?_
            rotate_left
            · intro W hSw; obtain ⟨y0, y1⟩ := X.out W (below_then HBQ.out hSw); go_simp; try with_reducible rfl
            refine wpAnyH_take (i := 15) (v := ?_) rfl (by kernel_rfl) (by kernel_rfl) (by kernel_rfl) (fun _ _ _ h => h) (Or.inl ⟨by rfl, ?_⟩) hHeld25 ?_
            rotate_left
            · intro W hSw; obtain ⟨y0, y1⟩ := X.out W (below_then HBQ.out hSw); go_simp; try with_reducible rfl
            refine wpAnyH_done (by kernel_rfl) ?_ _
            have OWN25 := Lib.hid own25
            have BWH25 := Lib.hid (below_then HBQ.out BW25)
            clear own25 BW25 hHeld25 own24 BW24
            go_wp2_with fail
            all_goals go_ret2
            all_goals exact put_end OWN25.out CUTP.out NB.out (below_then AL1.out HB2.out) HBQ.out BWH25.out
        · go_simp
          obtain ⟨W26, hW26⟩ : ∃ W26, W16.alloc (.cells #[.string s, .int .i64 x] 30) = W26 := ⟨_, rfl⟩
          have al26 : Below W16.heap.size W16 W26 := by rw [← hW26]; exact (Below.refl _ W16).alloc (Nat.le_refl _) _
          have sz26 : Hid (W26.heap.size = W16.heap.size + 1) := by show _ = _; rw [← hW26]; simp
          have BW26 : Below wq.heap.size wq W26 := below_then BW16 al26
          have one26 : SList W26 (.slice (some ⟨W16.heap.size, 0, none⟩) 1 1) [(s.data.toList, x)] := by rw [← hW26]; exact one_list W16 s x
          rw [hW26]
          refine hK.out _ _ BW26 (fun _ => ?_)
          clear hK K hW26 al26
          refine wpAnyH_ready (rs := [0]) (by kernel_rfl) (by simp) ?_
          refine AllReadyH.cons rfl (fun K hK => ?_) AllReadyH.nil
          go_simp
          obtain ⟨W27, hW27⟩ : ∃ W27, W26.alloc (.cells #[] 30) = W27 := ⟨_, rfl⟩
          have al27 : Below W26.heap.size W26 W27 := by rw [← hW27]; exact (Below.refl _ W26).alloc (Nat.le_refl _) _
          have sz27 : Hid (W27.heap.size = W26.heap.size + 1) := by show _ = _; rw [← hW27]; simp
          have BW27 : Below wq.heap.size wq W27 := below_then BW26 al27
          have own27 : SRow W27 wq.heap.size (.slice (some ⟨W26.heap.size, 0, none⟩) 0 0) [] := by rw [← hW27]; exact srow_new W26 _ BW26.size
          have one27 := SList.keep one26 al27
          rw [hW27]
          refine hK.out _ _ BW27 (fun _ => ?_)
          clear hK K hW27 al27
          refine wpAnyH_ready (rs := [4]) (by kernel_rfl) (by simp) ?_
          refine AllReadyH.cons rfl (fun K hK => ?_) AllReadyH.nil
          refine step_append_scores rfl (.tmp 29) (.tmp 32) rfl wq _ [] rfl own27 _ (d.take 0) rfl ((sl_none wq (d.take 0) (by rw [List.length_take]; have := LN.out; omega)).keep BW27) (by have := LN.out; rw [List.length_take]; simp only [List.length_nil]; omega) BW27 ?_
          intro v28 W28 own28 BW28 far28
          rw [List.nil_append] at own28
          have one28 := SList.same one27 (far28.2 _ (by show W16.heap.size < _; have := sz26.out; have := sz27.out; omega) (fun e => by injection e with e; have e : W26.heap.size = W16.heap.size := e; have := sz26.out; have := sz27.out; omega)) far28.1
          have sz28 := Lib.hid far28.1
          refine hK.out _ _ BW28 (fun _ => ?_)
          clear hK K
          refine wpAnyH_ready (rs := [7]) (by kernel_rfl) (by simp) ?_
          refine AllReadyH.cons rfl (fun K hK => ?_) AllReadyH.nil
          refine step_append_scores rfl (.tmp 33) (.tmp 35) rfl wq v28 (d.take 0) rfl own28 _ [(s.data.toList, x)] rfl one28 (by have := LN.out; rw [List.length_take]; simp only [List.length_cons, List.length_nil]; omega) BW28 ?_
          intro v29 W29 own29 BW29 _
          refine hK.out _ _ BW29 (fun _ => ?_)
          clear hK K
          refine wpAnyH_ready (rs := [11]) (by kernel_rfl) (by simp) ?_
          refine AllReadyH.cons rfl (fun K hK => ?_) AllReadyH.nil
          refine step_append_scores rfl (.tmp 36) (.tmp 39) rfl wq v29 _ rfl own29 _ (d.drop 0) rfl ((sl_none wq (d.drop 0) (by rw [List.length_drop]; have := LN.out; omega)).keep BW29) (by have := LN.out; rw [List.length_append, List.length_take, List.length_drop]; simp only [List.length_cons, List.length_nil]; omega) BW29 ?_
          intro v30 W30 own30 BW30 _
          refine hK.out _ _ BW30 (fun hHeld30 => ?_)
          clear hK K
          refine wpAnyH_take (i := 14) (v := ?_) rfl (by kernel_rfl) (by kernel_rfl) (by kernel_rfl) (fun _ _ _ h => h) (Or.inl ⟨by rfl, ?_⟩) hHeld30 ?_
          rotate_left
          · intro W hSw; obtain ⟨y0, y1⟩ := X.out W (below_then HBQ.out hSw); go_simp; try with_reducible rfl
          refine wpAnyH_take (i := 15) (v := ?_) rfl (by kernel_rfl) (by kernel_rfl) (by kernel_rfl) (fun _ _ _ h => h) (Or.inl ⟨by rfl, ?_⟩) hHeld30 ?_
          rotate_left
          · intro W hSw; obtain ⟨y0, y1⟩ := X.out W (below_then HBQ.out hSw); go_simp; try with_reducible rfl
          refine wpAnyH_done (by kernel_rfl) ?_ _
          have OWN30 := Lib.hid own30
          have BWH30 := Lib.hid (below_then HBQ.out BW30)
          clear own30 BW30 hHeld30 own29 BW29
          go_wp2_with fail
          all_goals go_ret2
          all_goals exact put_end OWN30.out CUTP.out NB.out (below_then AL1.out HB2.out) HBQ.out BWH30.out
      | some a =>
        go_wp2_with fail
        go_quiet (fail)
        obtain ⟨wq, hwq⟩ : ∃ wq, wr.drewN nq = wq := ⟨_, rfl⟩
        have HBQ : Hid (Below w2.heap.size w2 wq) := by rw [← hwq]; exact below_then BR.out (below_drewN' _ wr nq)
        have SKQ : Hid (SList wq (.slice (some a) m c) d) := SK.out.keep HBQ.out
        go_wp2_with fail
        try rw [hwq]
        clear hwq
        refine wp_region_held_drew (S := fun W => Below wq.heap.size wq W) (by kernel_rfl) (Below.refl _ _).drew (fun hHeld => ?_)
        refine wpAnyH_take (i := 1) (v := ?_) rfl (by kernel_rfl) (by kernel_rfl) (by kernel_rfl) (fun _ _ _ h => h) (Or.inl ⟨by rfl, ?_⟩) hHeld ?_
        rotate_left
        · intro W hSw; obtain ⟨y0, y1⟩ := X.out W (below_then HBQ.out hSw); go_simp; try with_reducible rfl
        refine wpAnyH_take (i := 2) (v := ?_) rfl (by kernel_rfl) (by kernel_rfl) (by kernel_rfl) (fun _ _ _ h => h) (Or.inl ⟨by rfl, ?_⟩) hHeld ?_
        rotate_left
        · intro W hSw; obtain ⟨y0, y1⟩ := X.out W (below_then HBQ.out hSw); go_simp; try with_reducible rfl
        refine wpAnyH_take (i := 3) (v := ?_) rfl (by kernel_rfl) (by kernel_rfl) (by kernel_rfl) (fun _ _ _ h => h) (Or.inl ⟨by rfl, ?_⟩) hHeld ?_
        rotate_left
        · intro W hSw; obtain ⟨y0, y1⟩ := X.out W (below_then HBQ.out hSw); go_simp; try with_reducible rfl
        refine wpAnyH_take (i := 5) (v := ?_) rfl (by kernel_rfl) (by kernel_rfl) (by kernel_rfl) (fun _ _ _ h => h) (Or.inl ⟨by rfl, ?_⟩) hHeld ?_
        rotate_left
        · intro W hSw; obtain ⟨y0, y1⟩ := X.out W (below_then HBQ.out hSw); go_simp; try with_reducible rfl
        refine wpAnyH_take (i := 8) (v := ?_) rfl (by kernel_rfl) (by kernel_rfl) (by kernel_rfl) (fun _ _ _ h => h) (Or.inl ⟨by rfl, ?_⟩) hHeld ?_
        rotate_left
        · intro W hSw; obtain ⟨y0, y1⟩ := X.out W (below_then HBQ.out hSw); go_simp; try with_reducible rfl
        refine wpAnyH_take (i := 9) (v := ?_) rfl (by kernel_rfl) (by kernel_rfl) (by kernel_rfl) (fun _ _ _ h => h) (Or.inl ⟨by rfl, ?_⟩) hHeld ?_
        rotate_left
        · intro W hSw; obtain ⟨y0, y1⟩ := X.out W (below_then HBQ.out hSw); go_simp; try with_reducible rfl
        refine wpAnyH_take (i := 10) (v := ?_) rfl (by kernel_rfl) (by kernel_rfl) (by kernel_rfl) (fun _ _ _ h => h) (Or.inl ⟨by rfl, ?_⟩) hHeld ?_
        rotate_left
        · intro W hSw; obtain ⟨y0, y1⟩ := X.out W (below_then HBQ.out hSw); go_simp; try with_reducible rfl
        refine wpAnyH_take (i := 12) (v := ?_) rfl (by kernel_rfl) (by kernel_rfl) (by kernel_rfl) (fun _ _ _ h => h) (Or.inl ⟨by rfl, ?_⟩) hHeld ?_
        rotate_left
        · intro W hSw; obtain ⟨y0, y1⟩ := X.out W (below_then HBQ.out hSw); go_simp; try with_reducible rfl
        refine wpAnyH_take (i := 13) (v := ?_) rfl (by kernel_rfl) (by kernel_rfl) (by kernel_rfl) (fun _ _ _ h => h) (Or.inl ⟨by rfl, ?_⟩) hHeld ?_
        rotate_left
        · intro W hSw; obtain ⟨y0, y1⟩ := X.out W (below_then HBQ.out hSw); go_simp; try with_reducible rfl
        clear hHeld
        obtain ⟨W31, hW31⟩ : ∃ W31, wq.drew = W31 := ⟨_, rfl⟩
        have BW31 : Below wq.heap.size wq W31 := by rw [← hW31]; exact (Below.refl _ wq).drew
        rw [hW31]
        clear hW31
        refine wpAnyH_ready (rs := [0, 6]) (by kernel_rfl) (by simp) ?_
        refine AllReadyH.cons rfl (fun K hK => ?_) (AllReadyH.cons rfl (fun K hK => ?_) AllReadyH.nil)
        · go_simp
          obtain ⟨W32, hW32⟩ : ∃ W32, W31.alloc (.cells #[] 30) = W32 := ⟨_, rfl⟩
          have al32 : Below W31.heap.size W31 W32 := by rw [← hW32]; exact (Below.refl _ W31).alloc (Nat.le_refl _) _
          have sz32 : Hid (W32.heap.size = W31.heap.size + 1) := by show _ = _; rw [← hW32]; simp
          have BW32 : Below wq.heap.size wq W32 := below_then BW31 al32
          have own32 : SRow W32 wq.heap.size (.slice (some ⟨W31.heap.size, 0, none⟩) 0 0) [] := by rw [← hW32]; exact srow_new W31 _ BW31.size
          rw [hW32]
          refine hK.out _ _ BW32 (fun _ => ?_)
          clear hK K hW32 al32
          refine wpAnyH_ready (rs := [4, 6]) (by kernel_rfl) (by simp) ?_
          refine AllReadyH.cons rfl (fun K hK => ?_) (AllReadyH.cons rfl (fun K hK => ?_) AllReadyH.nil)
          · refine step_append_scores rfl (.tmp 29) (.tmp 32) rfl wq _ [] rfl own32 _ (d.take m) rfl ((SKQ.out.front m (by have := LN.out; have := KM.out; omega)).keep BW32) (by have := LN.out; rw [List.length_take]; simp only [List.length_nil]; omega) BW32 ?_
            intro v33 W33 own33 BW33 far33
            rw [List.nil_append] at own33
            have sz33 := Lib.hid far33.1
            refine hK.out _ _ BW33 (fun _ => ?_)
            clear hK K
            refine wpAnyH_ready (rs := [6]) (by kernel_rfl) (by simp) ?_
            refine AllReadyH.cons rfl (fun K hK => ?_) AllReadyH.nil
            go_simp
            obtain ⟨W34, hW34⟩ : ∃ W34, W33.alloc (.cells #[.string s, .int .i64 x] 30) = W34 := ⟨_, rfl⟩
            have al34 : Below W33.heap.size W33 W34 := by rw [← hW34]; exact (Below.refl _ W33).alloc (Nat.le_refl _) _
            have sz34 : Hid (W34.heap.size = W33.heap.size + 1) := by show _ = _; rw [← hW34]; simp
            have BW34 : Below wq.heap.size wq W34 := below_then BW33 al34
            have one34 : SList W34 (.slice (some ⟨W33.heap.size, 0, none⟩) 1 1) [(s.data.toList, x)] := by rw [← hW34]; exact one_list W33 s x
            have own34 := SRow.keep own33 al34
            rw [hW34]
            refine hK.out _ _ BW34 (fun _ => ?_)
            clear hK K hW34 al34
            refine wpAnyH_ready (rs := [7]) (by kernel_rfl) (by simp) ?_
            refine AllReadyH.cons rfl (fun K hK => ?_) AllReadyH.nil
            refine step_append_scores rfl (.tmp 33) (.tmp 35) rfl wq v33 (d.take m) rfl own34 _ [(s.data.toList, x)] rfl one34 (by have := LN.out; rw [List.length_take]; simp only [List.length_cons, List.length_nil]; omega) BW34 ?_
            intro v35 W35 own35 BW35 _
            refine hK.out _ _ BW35 (fun _ => ?_)
            clear hK K
            refine wpAnyH_ready (rs := [11]) (by kernel_rfl) (by simp) ?_
            refine AllReadyH.cons rfl (fun K hK => ?_) AllReadyH.nil
            refine step_append_scores rfl (.tmp 36) (.tmp 39) rfl wq v35 _ rfl own35 _ (d.drop m) rfl ((sl_end SKQ.out (by have := LN.out; omega)).keep BW35) (by have := LN.out; rw [List.length_append, List.length_take, List.length_drop]; simp only [List.length_cons, List.length_nil]; omega) BW35 ?_
            intro v36 W36 own36 BW36 _
            refine hK.out _ _ BW36 (fun hHeld36 => ?_)
            clear hK K
            refine wpAnyH_take (i := 14) (v := ?_) rfl (by kernel_rfl) (by kernel_rfl) (by kernel_rfl) (fun _ _ _ h => h) (Or.inl ⟨by rfl, ?_⟩) hHeld36 ?_
            rotate_left
            · intro W hSw; obtain ⟨y0, y1⟩ := X.out W (below_then HBQ.out hSw); go_simp; try with_reducible rfl
            refine wpAnyH_take (i := 15) (v := ?_) rfl (by kernel_rfl) (by kernel_rfl) (by kernel_rfl) (fun _ _ _ h => h) (Or.inl ⟨by rfl, ?_⟩) hHeld36 ?_
            rotate_left
            · intro W hSw; obtain ⟨y0, y1⟩ := X.out W (below_then HBQ.out hSw); go_simp; try with_reducible rfl
            refine wpAnyH_done (by kernel_rfl) ?_ _
            have OWN36 := Lib.hid own36
            have BWH36 := Lib.hid (below_then HBQ.out BW36)
            clear own36 BW36 hHeld36 own35 BW35
            go_wp2_with fail
            all_goals go_ret2
            all_goals exact put_end OWN36.out CUTP.out NB.out (below_then AL1.out HB2.out) HBQ.out BWH36.out
          · go_simp
            obtain ⟨W37, hW37⟩ : ∃ W37, W32.alloc (.cells #[.string s, .int .i64 x] 30) = W37 := ⟨_, rfl⟩
            have al37 : Below W32.heap.size W32 W37 := by rw [← hW37]; exact (Below.refl _ W32).alloc (Nat.le_refl _) _
            have sz37 : Hid (W37.heap.size = W32.heap.size + 1) := by show _ = _; rw [← hW37]; simp
            have BW37 : Below wq.heap.size wq W37 := below_then BW32 al37
            have one37 : SList W37 (.slice (some ⟨W32.heap.size, 0, none⟩) 1 1) [(s.data.toList, x)] := by rw [← hW37]; exact one_list W32 s x
            have own37 := SRow.keep own32 al37
            rw [hW37]
            refine hK.out _ _ BW37 (fun _ => ?_)
            clear hK K hW37 al37
            refine wpAnyH_ready (rs := [4]) (by kernel_rfl) (by simp) ?_
            refine AllReadyH.cons rfl (fun K hK => ?_) AllReadyH.nil
            refine step_append_scores rfl (.tmp 29) (.tmp 32) rfl wq _ [] rfl own37 _ (d.take m) rfl ((SKQ.out.front m (by have := LN.out; have := KM.out; omega)).keep BW37) (by have := LN.out; rw [List.length_take]; simp only [List.length_nil]; omega) BW37 ?_
            intro v38 W38 own38 BW38 far38
            rw [List.nil_append] at own38
            have one38 := SList.same one37 (far38.2 _ (by show W32.heap.size < _; have := sz32.out; have := sz37.out; omega) (fun e => by injection e with e; have e : W31.heap.size = W32.heap.size := e; have := sz32.out; have := sz37.out; omega)) far38.1
            have sz38 := Lib.hid far38.1
            refine hK.out _ _ BW38 (fun _ => ?_)
            clear hK K
            refine wpAnyH_ready (rs := [7]) (by kernel_rfl) (by simp) ?_
            refine AllReadyH.cons rfl (fun K hK => ?_) AllReadyH.nil
            refine step_append_scores rfl (.tmp 33) (.tmp 35) rfl wq v38 (d.take m) rfl own38 _ [(s.data.toList, x)] rfl one38 (by have := LN.out; rw [List.length_take]; simp only [List.length_cons, List.length_nil]; omega) BW38 ?_
            intro v39 W39 own39 BW39 _
            refine hK.out _ _ BW39 (fun _ => ?_)
            clear hK K
            refine wpAnyH_ready (rs := [11]) (by kernel_rfl) (by simp) ?_
            refine AllReadyH.cons rfl (fun K hK => ?_) AllReadyH.nil
            refine step_append_scores rfl (.tmp 36) (.tmp 39) rfl wq v39 _ rfl own39 _ (d.drop m) rfl ((sl_end SKQ.out (by have := LN.out; omega)).keep BW39) (by have := LN.out; rw [List.length_append, List.length_take, List.length_drop]; simp only [List.length_cons, List.length_nil]; omega) BW39 ?_
            intro v40 W40 own40 BW40 _
            refine hK.out _ _ BW40 (fun hHeld40 => ?_)
            clear hK K
            refine wpAnyH_take (i := 14) (v := ?_) rfl (by kernel_rfl) (by kernel_rfl) (by kernel_rfl) (fun _ _ _ h => h) (Or.inl ⟨by rfl, ?_⟩) hHeld40 ?_
            rotate_left
            · intro W hSw; obtain ⟨y0, y1⟩ := X.out W (below_then HBQ.out hSw); go_simp; try with_reducible rfl
            refine wpAnyH_take (i := 15) (v := ?_) rfl (by kernel_rfl) (by kernel_rfl) (by kernel_rfl) (fun _ _ _ h => h) (Or.inl ⟨by rfl, ?_⟩) hHeld40 ?_
            rotate_left
            · intro W hSw; obtain ⟨y0, y1⟩ := X.out W (below_then HBQ.out hSw); go_simp; try with_reducible rfl
            refine wpAnyH_done (by kernel_rfl) ?_ _
            have OWN40 := Lib.hid own40
            have BWH40 := Lib.hid (below_then HBQ.out BW40)
            clear own40 BW40 hHeld40 own39 BW39
            go_wp2_with fail
            all_goals go_ret2
            all_goals exact put_end OWN40.out CUTP.out NB.out (below_then AL1.out HB2.out) HBQ.out BWH40.out
        · go_simp
          obtain ⟨W41, hW41⟩ : ∃ W41, W31.alloc (.cells #[.string s, .int .i64 x] 30) = W41 := ⟨_, rfl⟩
          have al41 : Below W31.heap.size W31 W41 := by rw [← hW41]; exact (Below.refl _ W31).alloc (Nat.le_refl _) _
          have sz41 : Hid (W41.heap.size = W31.heap.size + 1) := by show _ = _; rw [← hW41]; simp
          have BW41 : Below wq.heap.size wq W41 := below_then BW31 al41
          have one41 : SList W41 (.slice (some ⟨W31.heap.size, 0, none⟩) 1 1) [(s.data.toList, x)] := by rw [← hW41]; exact one_list W31 s x
          rw [hW41]
          refine hK.out _ _ BW41 (fun _ => ?_)
          clear hK K hW41 al41
          refine wpAnyH_ready (rs := [0]) (by kernel_rfl) (by simp) ?_
          refine AllReadyH.cons rfl (fun K hK => ?_) AllReadyH.nil
          go_simp
          obtain ⟨W42, hW42⟩ : ∃ W42, W41.alloc (.cells #[] 30) = W42 := ⟨_, rfl⟩
          have al42 : Below W41.heap.size W41 W42 := by rw [← hW42]; exact (Below.refl _ W41).alloc (Nat.le_refl _) _
          have sz42 : Hid (W42.heap.size = W41.heap.size + 1) := by show _ = _; rw [← hW42]; simp
          have BW42 : Below wq.heap.size wq W42 := below_then BW41 al42
          have own42 : SRow W42 wq.heap.size (.slice (some ⟨W41.heap.size, 0, none⟩) 0 0) [] := by rw [← hW42]; exact srow_new W41 _ BW41.size
          have one42 := SList.keep one41 al42
          rw [hW42]
          refine hK.out _ _ BW42 (fun _ => ?_)
          clear hK K hW42 al42
          refine wpAnyH_ready (rs := [4]) (by kernel_rfl) (by simp) ?_
          refine AllReadyH.cons rfl (fun K hK => ?_) AllReadyH.nil
          refine step_append_scores rfl (.tmp 29) (.tmp 32) rfl wq _ [] rfl own42 _ (d.take m) rfl ((SKQ.out.front m (by have := LN.out; have := KM.out; omega)).keep BW42) (by have := LN.out; rw [List.length_take]; simp only [List.length_nil]; omega) BW42 ?_
          intro v43 W43 own43 BW43 far43
          rw [List.nil_append] at own43
          have one43 := SList.same one42 (far43.2 _ (by show W31.heap.size < _; have := sz41.out; have := sz42.out; omega) (fun e => by injection e with e; have e : W41.heap.size = W31.heap.size := e; have := sz41.out; have := sz42.out; omega)) far43.1
          have sz43 := Lib.hid far43.1
          refine hK.out _ _ BW43 (fun _ => ?_)
          clear hK K
          refine wpAnyH_ready (rs := [7]) (by kernel_rfl) (by simp) ?_
          refine AllReadyH.cons rfl (fun K hK => ?_) AllReadyH.nil
          refine step_append_scores rfl (.tmp 33) (.tmp 35) rfl wq v43 (d.take m) rfl own43 _ [(s.data.toList, x)] rfl one43 (by have := LN.out; rw [List.length_take]; simp only [List.length_cons, List.length_nil]; omega) BW43 ?_
          intro v44 W44 own44 BW44 _
          refine hK.out _ _ BW44 (fun _ => ?_)
          clear hK K
          refine wpAnyH_ready (rs := [11]) (by kernel_rfl) (by simp) ?_
          refine AllReadyH.cons rfl (fun K hK => ?_) AllReadyH.nil
          refine step_append_scores rfl (.tmp 36) (.tmp 39) rfl wq v44 _ rfl own44 _ (d.drop m) rfl ((sl_end SKQ.out (by have := LN.out; omega)).keep BW44) (by have := LN.out; rw [List.length_append, List.length_take, List.length_drop]; simp only [List.length_cons, List.length_nil]; omega) BW44 ?_
          intro v45 W45 own45 BW45 _
          refine hK.out _ _ BW45 (fun hHeld45 => ?_)
          clear hK K
          refine wpAnyH_take (i := 14) (v := ?_) rfl (by kernel_rfl) (by kernel_rfl) (by kernel_rfl) (fun _ _ _ h => h) (Or.inl ⟨by rfl, ?_⟩) hHeld45 ?_
          rotate_left
          · intro W hSw; obtain ⟨y0, y1⟩ := X.out W (below_then HBQ.out hSw); go_simp; try with_reducible rfl
          refine wpAnyH_take (i := 15) (v := ?_) rfl (by kernel_rfl) (by kernel_rfl) (by kernel_rfl) (fun _ _ _ h => h) (Or.inl ⟨by rfl, ?_⟩) hHeld45 ?_
          rotate_left
          · intro W hSw; obtain ⟨y0, y1⟩ := X.out W (below_then HBQ.out hSw); go_simp; try with_reducible rfl
          refine wpAnyH_done (by kernel_rfl) ?_ _
          have OWN45 := Lib.hid own45
          have BWH45 := Lib.hid (below_then HBQ.out BW45)
          clear own45 BW45 hHeld45 own44 BW44
          go_wp2_with fail
          all_goals go_ret2
          all_goals exact put_end OWN45.out CUTP.out NB.out (below_then AL1.out HB2.out) HBQ.out BWH45.out
end Go.Proofs.YtopnbfhkfagemaaDoor
