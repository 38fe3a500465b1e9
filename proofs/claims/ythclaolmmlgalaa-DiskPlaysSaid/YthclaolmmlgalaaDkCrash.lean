/- The contract of package disk's crashed: what a crash leaves of one file. -/
import Derived.Test.YthclaolmmlgalaaDkFile
namespace Go.Proofs.Ythclaolmmlgalaa
open Go.RowKit Go.Maps
set_option linter.unusedVariables false

/-- What a crash leaves of a file's bytes. -/
def left (keep : Int) (gb : Bool) (l : List UInt8) (sy : Nat) : List UInt8 := (DiskM.crashed keep gb ⟨[], l, sy⟩).b
theorem left_is (keep : Int) (gb : Bool) (l : List UInt8) (sy nn : Nat) (hn : sy + (max 0 (min keep ((l.length : Int) - sy))).toNat = nn) : left keep gb l sy = if gb then DiskM.garbled (max sy ((nn - 1) / 512 * 512)) 0 (l.take nn) else l.take nn := by
  subst hn
  rfl
theorem left_length (keep : Int) (gb : Bool) (l : List UInt8) (sy nn : Nat) (hs : sy ≤ l.length) (hn : sy + (max 0 (min keep ((l.length : Int) - sy))).toNat = nn) : (left keep gb l sy).length = nn := by
  rw [left_is keep gb l sy nn hn]
  cases gb
  · simp; omega
  · simp [garbled_length]; omega
theorem slice_low (W : World) (g n c k : Nat) (hk : k ≤ n) (hc : n ≤ c) : (Instr.slice 40 (.slice (some ⟨g, 0, none⟩) n c) (some (.int .i64 (k : Int))) none none).run Try.prog W = .ok (.slice (if c = k then some ⟨g, 0, none⟩ else some ⟨g, k, none⟩) (n - k) (c - k)) W := by
  rw [slice_from W (some ⟨g, 0, none⟩) n c k hk hc]
  by_cases e : c = k
  · rw [if_pos e, if_pos e]
  · rw [if_neg e, if_neg e]
    by_cases z : k = 0 <;> simp [Addr.add, z]
set_option maxRecDepth 20000 in
set_option maxHeartbeats 400000 in
theorem crashed_plain (w : World) (A : Option Addr) (l : List UInt8) (c sy n nn : Nat) (keep : Int) (wk : (Lit.int .i64 keep).wf = true) (hA : A = none → c = 0) (hc : l.length ≤ c) (hb : Bs w w.heap.size A l) (hl : l.length ≤ 1073741824) (hs : sy ≤ l.length) (hn : l.length = n)
    (hnn : sy + (max 0 (min keep ((l.length : Int) - sy))).toNat = nn) :
    Calls Try.prog 35 #[.agg #[.slice A n c, .int .i64 sy], .int .i64 keep, .bool false] w fun e w' => ∃ v, e = .returned (.agg #[v, .int .i64 nn]) ∧ w'.ownsRow w.heap.size 5 1 v nn ((l.take nn).map bv) ∧ Below w.heap.size w w' := by
  have HB := Lib.hid hb
  have HA := Lib.hid hA
  have HL := Lib.hid hl
  have HC := Lib.hid hc
  have HN := Lib.hid hn
  obtain ⟨d, hd⟩ : ∃ d : Nat, n = sy + d := ⟨n - sy, by omega⟩
  have hsub : (n : Int) - (sy : Int) = (d : Int) := by omega
  have hw1 : wrap64 (d : Int) = (d : Int) := by unfold wrap64; omega
  have d0 : (0 : Int) ≤ (d : Int) := by omega
  have hnl : nn ≤ l.length := by omega
  have HNL := Lib.hid hnl
  have bn : (nn : Int) ≤ 1073741824 := by omega
  have e3 : wrap64 (nn : Int) = (nn : Int) := by unfold wrap64; omega
  have key : (keep < 0 ∧ nn = sy) ∨ (0 ≤ keep ∧ keep ≤ d ∧ (sy : Int) + keep = nn) ∨ (0 ≤ keep ∧ (d : Int) < keep ∧ (sy : Int) + d = nn) := by omega
  have hfr : ∀ {W : World}, Below w.heap.size w W → Calls Try.prog 40 #[.agg #[.slice A n c, .int .i64 sy], .int .i64 nn] W fun e w' => ∃ v, e = .returned (.agg #[v, .int .i64 nn]) ∧ w'.ownsRow W.heap.size 5 1 v nn ((l.take nn).map bv) ∧ Below W.heap.size W w' :=
    fun {W} hW => front_any W A l c sy nn hnl hA hc (hb.later hW) hl n hn
  have HFR : Hid (∀ {W : World}, Below w.heap.size w W → Calls Try.prog 40 #[.agg #[.slice A n c, .int .i64 sy], .int .i64 nn] W fun e w' => ∃ v, e = .returned (.agg #[v, .int .i64 nn]) ∧ w'.ownsRow W.heap.size 5 1 v nn ((l.take nn).map bv) ∧ Below W.heap.size W w') := hfr
  clear hb hA hl hc hnl hfr hn hnn hs hd HB HA HL HC HN HNL
  rcases key with ⟨h0, rfl⟩ | ⟨h0, h1, e2⟩ | ⟨h0, h1, e2⟩
  all_goals
    go_enter Try.func35, Try.ntmps35
    go_wp2_with fail
    go_at_call 40
    refine (HFR.out (((Below.refl _ w).alloc (Nat.le_refl _) _).alloc (by simp) _)).mono ?_
    rintro e w1 ⟨v, rfl, ho, hb1⟩
    obtain ⟨A1, c1', rfl, -, -⟩ := own_slice ho
    have HO := Lib.hid ho
    have HB1 := Lib.hid hb1
    have z1 : w.heap.size + 1 < w1.heap.size := by have := hb1.size; simp at this; omega
    have h1 : w1.heap[w.heap.size + 1]? = some (.cells #[.slice none 0 0, .int .i64 0] 57 (0, 0)) := by
      rw [hb1.block _ (by simp)]
      exact heap_alloc2_new _ _ _
    have H1 := Lib.hid h1
    have c0 : w1.cell? ⟨w.heap.size + 1, 0, none⟩ = some (.slice none 0 0) := by simp [World.cell?, h1]
    have c1 : w1.cell? ⟨w.heap.size + 1, 1, none⟩ = some (.int .i64 0) := by simp [World.cell?, h1]
    have f0 : w1.frozen? ⟨w.heap.size + 1, 0, none⟩ = false := by simp [World.frozen?, h1]
    have f1 : w1.frozen? ⟨w.heap.size + 1, 1, none⟩ = false := by simp [World.frozen?, h1]
    clear ho hb1 h1
    go_wp2_with fail
    refine ⟨rfl, _, res_file1 (p := 6) rfl _ _ (w.heap.size + 1) _ _ _ _ rfl ((heap_alloc_old _ _ (by simp; exact z1)).trans (cells_set2 H1.out _ _)), _, rfl, ?_, ?_⟩
    · refine row_same (row_base HO.out (by simp; omega)) fun b hb => ?_
      have hne : b ≠ w.heap.size + 1 := by have := (row_new HO.out hb).1; simp at this; omega
      have hlt := (row_new HO.out hb).2
      rw [heap_alloc_old _ _ (by simp; exact hlt), Below.heap_setCell _ _ _ _ hne, Below.heap_setCell _ _ _ _ hne]
    · exact (((((((Below.refl _ w).alloc (Nat.le_refl _) _).alloc (by simp) _).trans (HB1.out.mono (by simp; omega))).setCell (by simp) _).setCell (by simp) _).alloc (by simp; omega) _)
end Go.Proofs.Ythclaolmmlgalaa
