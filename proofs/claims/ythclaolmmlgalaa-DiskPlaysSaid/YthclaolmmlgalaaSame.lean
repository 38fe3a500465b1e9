/- Both disks tell the same (the law's Same). -/
import Derived.Test.YthclaolmmlgalaaActApp
namespace Go.Proofs.Ythclaolmmlgalaa
open Go.RowKit
set_option linter.unusedVariables false
theorem names_row {w : World} {F : Nat → Prop} {p : Addr} {M : DiskM.D} (h : DiskR w F p M) (n : Nat) (hn : M.l.length = n) :
    Calls Try.prog 25 #[.pointer (some p)] w fun e w' => ∃ A c, e = .returned (.slice A n c) ∧ n ≤ c ∧ (∀ i (hi : i < M.l.length), ∃ q : Addr, A = some q ∧ q.block < w'.heap.size ∧ w'.cell? (q.add i) = some (.string ⟨M.l[i].name.toArray⟩)) ∧ Below w.heap.size w w' := by
  refine (disk_ok.names h).mono ?_
  rintro e w' ⟨⟨v, rfl, A, c, rfl, hA, hc, hrow⟩, hb⟩
  have hl : (DiskM.names M).length = n := by rw [DiskM.names, List.length_map, hn]
  refine ⟨A, c, by rw [hl], by rw [← hl]; exact hc, fun i hi => ?_, hb⟩
  obtain ⟨q, e, hq, hcell⟩ := hrow i (by rw [hl, ← hn]; exact hi)
  refine ⟨q, e, hq, ?_⟩
  rw [hcell]
  simp [DiskM.names]
set_option maxRecDepth 20000 in
set_option maxHeartbeats 8000000 in
theorem same_any (K : Nat → Prop) (w : World) (p : Addr) (g : Nat) (M : DiskM.D) (D : Duo K w p g M M) :
    Calls Try.prog 7 #[.pointer (some p), .pointer (some ⟨g, 0, none⟩)] w fun e w' => e = .returned (.bool true) ∧ Below w.heap.size w w' := by
  obtain ⟨hri, hfew, hok, hsm, hro⟩ := D.facts
  obtain ⟨F, h, hd, hx, -⟩ := D
  have HD := Lib.hid hd
  have HX := Lib.hid hx
  obtain ⟨n, hn⟩ : ∃ n, M.l.length = n := ⟨_, rfl⟩
  have HN := Lib.hid hn
  have n0 : (0 : Int) ≤ (n : Int) := by omega
  have n9 : (n : Int) ≤ 1000 := by omega
  have HRI := Lib.hid hri
  have HOK := Lib.hid hok
  have HSM := Lib.hid hsm
  clear hri hfew hok hsm hro hd hx hn
  go_enter Try.func7, Try.ntmps7
  go_wp2_with fail
  go_at_call 25
  refine (names_row HD.out n HN.out).mono ?_
  rintro e w1 ⟨A, c, rfl, hc, hrow, hb1⟩
  have R1 := HX.out.below hb1
  obtain ⟨A2, c2, c0, hc2, hA2⟩ := R1.l
  have HROW := Lib.hid hrow
  have HB1 := Lib.hid hb1
  rw [HN.out] at c0 hc2
  have HA2 := Lib.hid hA2
  have hcc : (n : Int) ≤ (c : Int) := by omega
  have hcc2 : (n : Int) ≤ (c2 : Int) := by omega
  have HR1 := Lib.hid R1
  have HD1 := Lib.hid (disk_keep HD.out hb1)
  clear hrow hb1 hA2 R1 hc hc2
  go_wp2_with fail
  go_at_call 26
  refine (disk_ok.used HD1.out).mono ?_
  rintro e w2 ⟨rfl, hb2⟩
  have HR2 := Lib.hid (HR1.out.below hb2)
  have HB2 := Lib.hid hb2
  obtain ⟨u, hu⟩ : ∃ u, DiskM.used M.l = u := ⟨_, rfl⟩
  have HU := Lib.hid hu
  rw [hu]
  clear hb2 hu c0
  go_wp2_with fail
  go_at_call 27
  refine (used_any w2 g h M HR2.out).mono ?_
  rintro e w2' ⟨rfl, rfl⟩
  rw [HU.out]
  go_wp2_with fail
  go_loopw [6] (fun i wr => ∃ j : Nat, j ≤ n ∧ i = .int .i64 j ∧ Below w2.heap.size w2 wr) (fun i _ => n - (intOf i).toNat)
  case atStart => exact ⟨0, Nat.zero_le _, rfl, Below.refl _ _⟩
  case round =>
    obtain ⟨j, hj, rfl, hbw⟩ := hrel
    have BW := Lib.hid hbw
    have j0 : (0 : Int) ≤ (j : Int) := by omega
    clear hbw
    by_cases hlt : j < n
    · have j1 : (j : Int) < (n : Int) := by omega
      have hjl : j < M.l.length := by rw [HN.out]; exact hlt
      have R := HR2.out.below BW.out
      obtain ⟨A3, c3, c0, hc3, hA3⟩ := R.l
      have hA' : A3 = some ⟨h, 0, none⟩ := by
        rcases hA3 with ⟨_, z⟩ | z
        · omega
        · exact z
      subst hA'
      have f0 := R.row.each j 0 hjl (by omega)
      have f1 := R.row.each j 1 hjl (by omega)
      have f2 := R.row.each j 2 hjl (by omega)
      obtain ⟨q, rfl, hq, hqc⟩ := HROW.out j hjl
      have hqc2 := ((HB2.out).trans (BW.out.mono HB2.out.size)).cell (p := q.add j) (by rw [add_block]; exact hq)
      rw [hqc] at hqc2
      obtain ⟨x, hxx⟩ : ∃ x, M.l[j] = x := ⟨_, rfl⟩
      rw [hxx] at f0 f1 f2 hqc2
      have hxm : x ∈ M.l := by rw [← hxx]; exact List.getElem_mem hjl
      obtain ⟨a0, ha0⟩ : ∃ a : ByteArray, (⟨x.name.toArray⟩ : ByteArray) = a := ⟨_, rfl⟩
      obtain ⟨b, hb⟩ : ∃ b : ByteArray, (⟨x.b.toArray⟩ : ByteArray) = b := ⟨_, rfl⟩
      obtain ⟨y, hy⟩ : ∃ y, x.sync = y := ⟨_, rfl⟩
      have f0' : wr.cell? ⟨h, j * 3, none⟩ = some (.string a0) := by rw [← ha0]; exact f0
      have f1' : wr.cell? ⟨h, j * 3 + 1, none⟩ = some (.string b) := by rw [f1, ← hb]; rfl
      have f2' : wr.cell? ⟨h, j * 3 + 2, none⟩ = some (.int .i64 (y : Int)) := by rw [f2, ← hy]; rfl
      rw [ha0] at hqc2
      rw [HN.out] at c0 hc3
      have hcc3 : (n : Int) ≤ (c3 : Int) := by omega
      have hl0 : a0.data.toList = x.name := by rw [← ha0]
      have hlb : b.data.toList = x.b := by rw [← hb]
      have hlz : b.size = x.b.length := by rw [← hlb]; simp
      have hfd : DiskM.find M.l x.name = some x := DiskM.find_mem_rises HRI.out hxm
      have HFD := Lib.hid hfd
      have HXM := Lib.hid hxm
      have HL0 := Lib.hid hl0
      have HLB := Lib.hid hlb
      have HLZ := Lib.hid hlz
      have HY := Lib.hid hy
      have hhr := R.row.1 (by omega)
      have hgr := R.lt
      have bA : Below wr.heap.size wr (wr.alloc (.cells #[.string a0, .string b, .int .i64 (y : Int)] 52)) := (Below.refl _ wr).alloc (Nat.le_refl _) _
      have hqc3 := (bA.cell (p := q.add j) (by rw [add_block]; have := HB2.out.size; have := BW.out.size; omega)).trans hqc2
      have hq2 : Hid (q.block < wr.heap.size) := by show q.block < wr.heap.size; have := HB2.out.size; have := BW.out.size; omega
      have HBA : Hid (Below w2.heap.size w2 _) := below_then BW.out bA
      have HBA1 := Lib.hid bA
      have hDA := disk_keep (disk_keep (disk_keep HD1.out HB2.out) BW.out) bA
      have HDA := Lib.hid hDA
      have HRA := Lib.hid ((HR2.out.below BW.out).below bA)
      have hbox : ∀ i, (wr.alloc (.cells #[.string a0, .string b, .int .i64 (y : Int)] 52)).cell? ⟨wr.heap.size, i, none⟩ = (#[.string a0, .string b, .int .i64 (y : Int)] : Array Value)[i]? := fun i => by rw [World.cell?_alloc_mark]
      have HBOX := Lib.hid hbox
      have hz0 : a0.size ≤ maxLen := by
        have := (HOK.out x HXM.out).1
        have e : a0.size = x.name.length := by rw [← HL0.out]; simp
        unfold maxLen; omega
      have HZ0 := Lib.hid hz0
      have hsz : DiskM.size M a0.data.toList = b.size := by rw [HL0.out, DiskM.size, HFD.out, HLZ.out]
      have hsy : DiskM.synced M a0.data.toList = y := by rw [HL0.out, DiskM.synced, HFD.out]; exact HY.out
      have HSZ := Lib.hid hsz
      have HSY := Lib.hid hsy
      obtain ⟨rd, hrd⟩ : ∃ rd, DiskM.read M a0.data.toList = rd := ⟨_, rfl⟩
      obtain ⟨rb, re⟩ := rd
      have HRD := Lib.hid hrd
      obtain ⟨m, hm⟩ : ∃ m, rb.length = m := ⟨_, rfl⟩
      obtain ⟨rB, hrB⟩ : ∃ rB : ByteArray, (⟨rb.toArray⟩ : ByteArray) = rB := ⟨_, rfl⟩
      have HM := Lib.hid hm
      have HRB := Lib.hid hrB
      clear hxx hfd hxm hl0 hlb hlz hy f0 f1 f2 ha0 hb hqc hq R hA3 hc3 hqc2 bA hDA hbox hz0 hsz hsy hrd hm hrB
      go_wp2_with fail
      go_at_call 12
      have q0 := disk_ok.read HDA.out a0 HZ0.out
      rw [HRD.out] at q0
      refine q0.mono ?_
      rintro e w5 ⟨⟨v, rfl, A4, c4, rfl, hA4, hc4, hbs4⟩, hb5⟩
      rw [HM.out]
      have cv := fun (W : World) (hW : Below w5.heap.size w5 W) => convert_n (w := W) c4 m HM.out (hbs4.later hW)
      rw [HRB.out] at cv
      have x0 := (hb5.cell (p := ⟨wr.heap.size, 0, none⟩) (by simp)).trans (HBOX.out 0)
      have x1 := (hb5.cell (p := ⟨wr.heap.size, 1, none⟩) (by simp)).trans (HBOX.out 1)
      have x2 := (hb5.cell (p := ⟨wr.heap.size, 2, none⟩) (by simp)).trans (HBOX.out 2)
      have xq := (hb5.cell (p := q.add j) (by rw [add_block]; have := hq2.out; simp; omega)).trans hqc3
      have HD5 := Lib.hid (disk_keep HDA.out hb5)
      have HR5 := Lib.hid (HRA.out.below hb5)
      have HB5 := Lib.hid (below_then HBA.out hb5)
      have HS0 : Hid (Below w5.heap.size w5 w5.drew ∧ w5.drew.cell? (q.add j) = some (.string a0) ∧ w5.drew.cell? ⟨wr.heap.size, 0, none⟩ = some (.string a0) ∧ w5.drew.cell? ⟨wr.heap.size, 1, none⟩ = some (.string b) ∧ w5.drew.cell? ⟨wr.heap.size, 2, none⟩ = some (.int .i64 (y : Int)) ∧ (convert 40 9 (.slice A4 m c4)).run Try.prog w5.drew = .ok (.string rB) w5.drew) := ⟨(Below.refl _ w5).drew, xq, x0, x1, x2, cv _ (Below.refl _ w5).drew⟩
      have HST : Hid (∀ W W', (Below w5.heap.size w5 W ∧ W.cell? (q.add j) = some (.string a0) ∧ W.cell? ⟨wr.heap.size, 0, none⟩ = some (.string a0) ∧ W.cell? ⟨wr.heap.size, 1, none⟩ = some (.string b) ∧ W.cell? ⟨wr.heap.size, 2, none⟩ = some (.int .i64 (y : Int)) ∧ (convert 40 9 (.slice A4 m c4)).run Try.prog W = .ok (.string rB) W) → Below W.heap.size W W' → (Below w5.heap.size w5 W' ∧ W'.cell? (q.add j) = some (.string a0) ∧ W'.cell? ⟨wr.heap.size, 0, none⟩ = some (.string a0) ∧ W'.cell? ⟨wr.heap.size, 1, none⟩ = some (.string b) ∧ W'.cell? ⟨wr.heap.size, 2, none⟩ = some (.int .i64 (y : Int)) ∧ (convert 40 9 (.slice A4 m c4)).run Try.prog W' = .ok (.string rB) W')) := fun W W' h hb =>
        ⟨below_then h.1 hb, (hb.cell (World.block_lt_of_cell? W _ h.2.1)).trans h.2.1, (hb.cell (World.block_lt_of_cell? W _ h.2.2.1)).trans h.2.2.1, (hb.cell (World.block_lt_of_cell? W _ h.2.2.2.1)).trans h.2.2.2.1, (hb.cell (World.block_lt_of_cell? W _ h.2.2.2.2.1)).trans h.2.2.2.2.1, cv _ (below_then h.1 hb)⟩
      have SZ : Hid (∀ W, (Below w5.heap.size w5 W ∧ W.cell? (q.add j) = some (.string a0) ∧ W.cell? ⟨wr.heap.size, 0, none⟩ = some (.string a0) ∧ W.cell? ⟨wr.heap.size, 1, none⟩ = some (.string b) ∧ W.cell? ⟨wr.heap.size, 2, none⟩ = some (.int .i64 (y : Int)) ∧ (convert 40 9 (.slice A4 m c4)).run Try.prog W = .ok (.string rB) W) → Calls Try.prog 29 #[.pointer (some p), .string a0] W fun e w' => e = .returned (.int .i64 (b.size : Int)) ∧ Below W.heap.size W w') := fun W hW => by
        have z := disk_ok.size (disk_keep HD5.out hW.1) a0 HZ0.out
        rw [HSZ.out] at z
        exact z
      have SY : Hid (∀ W, (Below w5.heap.size w5 W ∧ W.cell? (q.add j) = some (.string a0) ∧ W.cell? ⟨wr.heap.size, 0, none⟩ = some (.string a0) ∧ W.cell? ⟨wr.heap.size, 1, none⟩ = some (.string b) ∧ W.cell? ⟨wr.heap.size, 2, none⟩ = some (.int .i64 (y : Int)) ∧ (convert 40 9 (.slice A4 m c4)).run Try.prog W = .ok (.string rB) W) → Calls Try.prog 30 #[.pointer (some p), .string a0] W fun e w' => e = .returned (.int .i64 (y : Int)) ∧ Below W.heap.size W w') := fun W hW => by
        have z := disk_ok.synced (disk_keep HD5.out hW.1) a0 HZ0.out
        rw [HSY.out] at z
        exact z
      clear hqc3 f0' f1' f2' cv xq x1 x2 hb5 hA4 hc4 hbs4 q0
      go_wp2_with fail
      go_at_call 28
      have q1 := read_any w5 g h M HR5.out a0
      rw [HRD.out] at q1
      refine q1.mono ?_
      rintro e w5' ⟨rfl, rfl⟩
      rw [show (⟨(rb, re).1.toArray⟩ : ByteArray) = rB from HRB.out]
      clear q1 x0
      go_wp2_with fail
      go_region_held3 (fun W => Below w5.heap.size w5 W ∧ W.cell? (q.add j) = some (.string a0) ∧ W.cell? ⟨wr.heap.size, 0, none⟩ = some (.string a0) ∧ W.cell? ⟨wr.heap.size, 1, none⟩ = some (.string b) ∧ W.cell? ⟨wr.heap.size, 2, none⟩ = some (.int .i64 (y : Int)) ∧ (convert 40 9 (.slice A4 m c4)).run Try.prog W = .ok (.string rB) W) (first | exact HS0.out | exact HST.out _ _ (by assumption) (by assumption) | assumption) (first
        | (go_at_call 29; with_reducible refine (SZ.out _ (by assumption)).mono ?_; rintro e w' ⟨rfl, hb⟩)
        | (go_at_call 30; with_reducible refine (SY.out _ (by assumption)).mono ?_; rintro e w' ⟨rfl, hb⟩))
      have HEND : Hid (∀ W, (Below w5.heap.size w5 W ∧ W.cell? (q.add j) = some (.string a0) ∧ W.cell? ⟨wr.heap.size, 0, none⟩ = some (.string a0) ∧ W.cell? ⟨wr.heap.size, 1, none⟩ = some (.string b) ∧ W.cell? ⟨wr.heap.size, 2, none⟩ = some (.int .i64 (y : Int)) ∧ (convert 40 9 (.slice A4 m c4)).run Try.prog W = .ok (.string rB) W) → Below w2.heap.size w2 W) := fun W h => below_then HB5.out h.1
      have BE := Lib.hid (HEND.out _ (by assumption))
      go_wp2_with fail
      go_roundw
      case rel => exact ⟨j + 1, hlt, by go_num, BE.out⟩
      case measure => simp [intOf]; omega
    · have j1 : (n : Int) ≤ (j : Int) := by omega
      go_wp2_with fail
      go_ret
      exact ⟨rfl, (HB1.out.trans (HB2.out.mono HB1.out.size)).trans (BW.out.mono (by have := HB1.out.size; have := HB2.out.size; omega))⟩
end Go.Proofs.Ythclaolmmlgalaa
