/- The contract of package disk's crashed where the end is garbled. -/
import Derived.Test.YthclaolmmlgalaaDkCrash
namespace Go.Proofs.Ythclaolmmlgalaa
open Go.RowKit Go.Maps
set_option linter.unusedVariables false

theorem only_eq {F : Nat → Prop} {a b : World} (h : a = b) : Only F a b := h ▸ Only.refl F a
theorem Only.wider {F G : Nat → Prop} {a b : World} (h : Only F a b) (k : ∀ n, F n → G n) : Only G a b := ⟨h.os, h.tape, h.output, h.size, fun n hn hg => h.block n hn fun f => hg (k n f)⟩
theorem cell_of2 {w : World} {g : Nat} {a b : Value} {t : TypeId} {fr : Nat × Nat} (h : w.heap[g]? = some (.cells #[a, b] t fr)) : w.cell? ⟨g, 0, none⟩ = some a ∧ w.cell? ⟨g, 1, none⟩ = some b := by
  constructor <;> simp [World.cell?, h]
theorem garbled_end (m : Nat) (l : List UInt8) (h : l.length ≤ m) : DiskM.garbled m 0 l = l := by
  apply List.ext_getElem
  · rw [garbled_length]
  · intro q h1 h2
    rw [garbled_at _ _ _ _ h2 h1, if_neg (by omega)]
theorem spoil_row (W : World) (base : Nat) (A1 : Option Addr) (nn c1 : Nat) (l : List UInt8) (hl : l.length = nn) (hb : nn ≤ 1073741824) (ho : W.ownsRow base 5 1 (.slice A1 nn c1) nn (l.map bv)) (m : Nat) (hm : m ≤ nn) (X : Option Addr) (hX : X = A1.map (·.add m) ∨ c1 = m) (Y : Nat) :
    Calls Try.prog 45 #[.slice X (nn - m) Y] W fun e w' => e = .returned (.tuple #[]) ∧ w'.ownsRow base 5 1 (.slice A1 nn c1) nn ((DiskM.garbled m 0 l).map bv) ∧ Only (fun k => (Value.slice A1 nn c1).ownBlock = some k) W w' := by
  by_cases z : m = nn
  · subst z
    rw [Nat.sub_self]
    refine (spoil_zero W X Y).mono ?_
    rintro e w' ⟨he, rfl⟩
    rw [garbled_end m l (by omega)]
    exact ⟨he, ho, Only.refl _ _⟩
  · obtain ⟨g, cap, e, hln, hg, hlt, hc, hr⟩ := RowG.of_row ho (by omega)
    injection e with e1 e2 e3
    subst e1 e3
    have hx : X = some ⟨g, m, none⟩ := by
      rcases hX with h | h
      · rw [h]
        simp [Addr.add]
        intro h
        exact h.symm
      · omega
    subst hx
    refine (spoil_any W g l m (nn - m) Y (by omega) (by omega) c1 hr (by omega)).mono ?_
    rintro e w' ⟨he, hr', hw⟩
    exact ⟨he, hr'.row ((garbled_length _ _ _).trans hl) hg, ⟨hw.os, hw.tape, hw.output, hw.size, fun k hk hf => hw.block k hk fun e => hf (by rw [e]; rfl)⟩⟩
set_option maxRecDepth 20000 in
set_option maxHeartbeats 1000000 in
theorem crashed_garbled (w : World) (A : Option Addr) (l : List UInt8) (c sy n nn : Nat) (keep : Int) (wk : (Lit.int .i64 keep).wf = true) (hA : A = none → c = 0) (hc : l.length ≤ c) (hb : Bs w w.heap.size A l) (hl : l.length ≤ 1073741824) (hs : sy ≤ l.length) (hn : l.length = n)
    (hnn : sy + (max 0 (min keep ((l.length : Int) - sy))).toNat = nn) :
    Calls Try.prog 35 #[.agg #[.slice A n c, .int .i64 sy], .int .i64 keep, .bool true] w fun e w' => ∃ v, e = .returned (.agg #[v, .int .i64 nn]) ∧ w'.ownsRow w.heap.size 5 1 v nn ((DiskM.garbled (max sy ((nn - 1) / 512 * 512)) 0 (l.take nn)).map bv) ∧ Below w.heap.size w w' := by
  have HB := Lib.hid hb
  have HA := Lib.hid hA
  have HL := Lib.hid hl
  have HC := Lib.hid hc
  have HN := Lib.hid hn
  obtain ⟨d, hd⟩ : ∃ d : Nat, n = sy + d := ⟨n - sy, by omega⟩
  have hsub : (n : Int) - (sy : Int) = (d : Int) := by omega
  have hw1 : wrap64 (d : Int) = (d : Int) := by unfold wrap64; omega
  have d0 : (0 : Int) ≤ (d : Int) := by omega
  have hnl : nn ≤ l.length := by omega
  have HNL := Lib.hid hnl
  have bn : (nn : Int) ≤ 1073741824 := by omega
  have e3 : wrap64 (nn : Int) = (nn : Int) := by unfold wrap64; omega
  have key : (keep < 0 ∧ nn = sy) ∨ (0 ≤ keep ∧ keep ≤ d ∧ (sy : Int) + keep = nn) ∨ (0 ≤ keep ∧ (d : Int) < keep ∧ (sy : Int) + d = nn) := by omega
  have hfr : ∀ {W : World}, Below w.heap.size w W → Calls Try.prog 40 #[.agg #[.slice A n c, .int .i64 sy], .int .i64 nn] W fun e w' => ∃ v, e = .returned (.agg #[v, .int .i64 nn]) ∧ w'.ownsRow W.heap.size 5 1 v nn ((l.take nn).map bv) ∧ Below W.heap.size W w' :=
    fun {W} hW => front_any W A l c sy nn hnl hA hc (hb.later hW) hl n hn
  have HFR : Hid (∀ {W : World}, Below w.heap.size w W → Calls Try.prog 40 #[.agg #[.slice A n c, .int .i64 sy], .int .i64 nn] W fun e w' => ∃ v, e = .returned (.agg #[v, .int .i64 nn]) ∧ w'.ownsRow W.heap.size 5 1 v nn ((l.take nn).map bv) ∧ Below W.heap.size W w') := hfr
  obtain ⟨s, hs9⟩ : ∃ s : Nat, s = (nn - 1) / 512 * 512 := ⟨_, rfl⟩
  rw [← hs9]
  have hsy : sy ≤ nn := by omega
  have hln : (l.take nn).length = nn := by rw [List.length_take]; omega
  have HLN := Lib.hid hln
  have HSY := Lib.hid hsy
  have HS9 := Lib.hid hs9
  obtain ⟨q, hq⟩ : ∃ q : Nat, q = (nn - 1) / 512 := ⟨_, rfl⟩
  have hq0 : ((nn : Int) - 1).tdiv 512 = (q : Int) := by
    by_cases z : nn = 0
    · subst z
      subst hq
      rfl
    · have e : ((nn : Int) - 1) = ((nn - 1 : Nat) : Int) := by omega
      rw [e, hq]
      exact (Int.ofNat_tdiv _ _)
  have hq1 : (q : Int) * 512 = (s : Int) := by omega
  have bq : (q : Int) ≤ 1073741824 := by omega
  have bs : (s : Int) ≤ 1073741824 := by omega
  have q0 : (0 : Int) ≤ (q : Int) := by omega
  have s0 : (0 : Int) ≤ (s : Int) := by omega
  have nn0 : (0 : Int) ≤ (nn : Int) := by omega
  have hsn : s ≤ nn := by omega
  have HSN := Lib.hid hsn
  have HNN : Hid (nn ≤ 1073741824) := by show nn ≤ 1073741824; omega
  clear hsy hln hb hA hl hc hnl hfr hn hnn hs hd HB HA HL HC HN HNL hs9 hsn hq
  rcases key with ⟨h0, rfl⟩ | ⟨h0, h1, e2⟩ | ⟨h0, h1, e2⟩
  · have hsl : (s : Int) < (nn : Int) ∨ nn = s := by have := HSN.out; omega
    have HEND : Hid (DiskM.garbled (max nn s) 0 (l.take nn) = l.take nn) := garbled_end _ _ (by have := HLN.out; omega)
    rw [HEND.out]
    rcases hsl with h9 | rfl
    all_goals
      go_enter Try.func35, Try.ntmps35
      go_wp2_with fail
      go_at_call 40
      refine (HFR.out (((Below.refl _ w).alloc (Nat.le_refl _) _).alloc (by simp) _)).mono ?_
      rintro e w1 ⟨v, rfl, ho, hb1⟩
      obtain ⟨A1, c1', rfl, -, -⟩ := own_slice ho
      have HO := Lib.hid ho
      have HB1 := Lib.hid hb1
      have z1 : w.heap.size + 1 < w1.heap.size := by have := hb1.size; simp at this; omega
      have h0' : w1.heap[w.heap.size]? = some (.cells #[.slice A n c, .int .i64 nn] 57 (0, 0)) := by
        rw [hb1.block _ (by simp; omega), heap_alloc_old _ _ (by simp)]; exact heap_alloc_new _ _
      have h1' : w1.heap[w.heap.size + 1]? = some (.cells #[.slice none 0 0, .int .i64 0] 57 (0, 0)) := by
        rw [hb1.block _ (by simp)]
        exact heap_alloc2_new _ _ _
      have H1 := Lib.hid h1'
      have d1 : w1.cell? ⟨w.heap.size, 1, none⟩ = some (.int .i64 nn) := by simp [World.cell?, h0']
      have zl : w.heap.size < w1.heap.size := by omega
      clear ho hb1 h1' h0'
      go_wp2_with fail
      all_goals
        try subst_vars
        go_at_call 45
        refine (spoil_zero _ _ _).mono ?_
        rintro e w2 ⟨rfl, hww⟩
        have HO2 := Lib.hid (row_same (w' := w2) (row_base HO.out (base' := w.heap.size) (by simp; omega)) fun b hb => by rw [← hww]; exact heap_alloc_old _ _ (row_new HO.out hb).2)
        have HW2 := Lib.hid (only_eq (F := fun k => w.heap.size + 2 ≤ k ∧ k < w1.heap.size) hww)
        clear hww
        have k1 : w2.heap[w.heap.size + 1]? = some (.cells #[.slice none 0 0, .int .i64 0] 57 (0, 0)) := by
          rw [HW2.out.block _ (by simp; omega) (by omega), heap_alloc_old _ _ z1]
          exact H1.out
        have k2 := (HW2.out.block _ (by simp) (by omega)).trans (heap_alloc_new _ _)
        have K1 := Lib.hid k1
        have c0 : w2.cell? ⟨w.heap.size + 1, 0, none⟩ = some (.slice none 0 0) := by simp [World.cell?, k1]
        have c1 : w2.cell? ⟨w.heap.size + 1, 1, none⟩ = some (.int .i64 0) := by simp [World.cell?, k1]
        have f0 : w2.frozen? ⟨w.heap.size + 1, 0, none⟩ = false := by simp [World.frozen?, k1]
        have f1 : w2.frozen? ⟨w.heap.size + 1, 1, none⟩ = false := by simp [World.frozen?, k1]
        obtain ⟨e0, e1⟩ := cell_of2 k2
        have bz : Below w.heap.size w w2 := (((((Below.refl _ w).alloc (Nat.le_refl _) _).alloc (by simp) _).trans (HB1.out.mono (by simp; omega))).alloc (by omega) _).trans (HW2.out.below (fun b hb => by omega) (by simp; omega))
        have BZ := Lib.hid bz
        clear k1 k2 bz
        go_wp2_with fail
        refine ⟨rfl, _, res_file1 (p := 6) rfl _ _ (w.heap.size + 1) _ _ _ _ rfl (cells_set2 K1.out _ _), _, rfl, ?_, ?_⟩
        · refine row_same HO2.out fun b hb => ?_
          have hne : b ≠ w.heap.size + 1 := by have := (row_new HO.out hb).1; simp at this; omega
          rw [Below.heap_setCell _ _ _ _ hne, Below.heap_setCell _ _ _ _ hne]
        · exact (BZ.out.setCell (by simp) _).setCell (by simp) _
  all_goals
    go_enter Try.func35, Try.ntmps35
    go_wp2_with fail
    go_at_call 40
    refine (HFR.out (((Below.refl _ w).alloc (Nat.le_refl _) _).alloc (by simp) _)).mono ?_
    rintro e w1 ⟨v, rfl, ho, hb1⟩
    obtain ⟨A1, c1', rfl, -, -⟩ := own_slice ho
    have HO := Lib.hid ho
    have HB1 := Lib.hid hb1
    have z1 : w.heap.size + 1 < w1.heap.size := by have := hb1.size; simp at this; omega
    have h0' : w1.heap[w.heap.size]? = some (.cells #[.slice A n c, .int .i64 sy] 57 (0, 0)) := by
      rw [hb1.block _ (by simp; omega), heap_alloc_old _ _ (by simp)]; exact heap_alloc_new _ _
    have h1' : w1.heap[w.heap.size + 1]? = some (.cells #[.slice none 0 0, .int .i64 0] 57 (0, 0)) := by
      rw [hb1.block _ (by simp)]
      exact heap_alloc2_new _ _ _
    have H1 := Lib.hid h1'
    have d1 : w1.cell? ⟨w.heap.size, 1, none⟩ = some (.int .i64 sy) := by simp [World.cell?, h0']
    have zl : w.heap.size < w1.heap.size := by omega
    clear ho hb1 h1' h0'
    go_wp2_with fail
    all_goals
      try subst_vars
      go_at_call 45
      refine (spoil_row _ w.heap.size A1 nn _ (l.take nn) HLN.out HNN.out (row_same (row_base HO.out (by simp; omega)) fun b hb => heap_alloc_old _ _ (row_new HO.out hb).2) _ (by first | exact HSN.out | exact HSY.out | exact Nat.le_refl _) _ (by first | exact .inl rfl | exact .inr (by assumption) | exact .inr (Eq.symm (by assumption)) | exact .inr rfl) _).mono ?_
      rintro e w2 ⟨rfl, ho2, hw2⟩
      have HO2 := Lib.hid ho2
      have HW2 := Lib.hid (hw2.wider (G := fun k => w.heap.size + 2 ≤ k ∧ k < w1.heap.size) fun k hk => by have := row_new HO.out hk; simp at this; omega)
      clear ho2 hw2
      have k1 : w2.heap[w.heap.size + 1]? = some (.cells #[.slice none 0 0, .int .i64 0] 57 (0, 0)) := by
        rw [HW2.out.block _ (by simp; omega) (by omega), heap_alloc_old _ _ z1]
        exact H1.out
      have k2 := (HW2.out.block _ (by simp) (by omega)).trans (heap_alloc_new _ _)
      have K1 := Lib.hid k1
      have c0 : w2.cell? ⟨w.heap.size + 1, 0, none⟩ = some (.slice none 0 0) := by simp [World.cell?, k1]
      have c1 : w2.cell? ⟨w.heap.size + 1, 1, none⟩ = some (.int .i64 0) := by simp [World.cell?, k1]
      have f0 : w2.frozen? ⟨w.heap.size + 1, 0, none⟩ = false := by simp [World.frozen?, k1]
      have f1 : w2.frozen? ⟨w.heap.size + 1, 1, none⟩ = false := by simp [World.frozen?, k1]
      obtain ⟨e0, e1⟩ := cell_of2 k2
      have bz : Below w.heap.size w w2 := (((((Below.refl _ w).alloc (Nat.le_refl _) _).alloc (by simp) _).trans (HB1.out.mono (by simp; omega))).alloc (by omega) _).trans (HW2.out.below (fun b hb => by omega) (by simp; omega))
      have BZ := Lib.hid bz
      clear k1 k2 bz
      go_wp2_with fail
      refine ⟨rfl, _, res_file1 (p := 6) rfl _ _ (w.heap.size + 1) _ _ _ _ rfl (cells_set2 K1.out _ _), _, rfl, ?_, ?_⟩
      · refine row_same (by have h := HO2.out; first | exact h | (rw [Nat.max_eq_left (by omega)]; exact h) | (rw [Nat.max_eq_right (by omega)]; exact h)) fun b hb => ?_
        have hne : b ≠ w.heap.size + 1 := by have := (row_new HO.out hb).1; simp at this; omega
        rw [Below.heap_setCell _ _ _ _ hne, Below.heap_setCell _ _ _ _ hne]
      · exact (BZ.out.setCell (by simp) _).setCell (by simp) _
end Go.Proofs.Ythclaolmmlgalaa
