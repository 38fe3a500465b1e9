/- The walk of the law DiskPlays: both disks, operation by operation, answer the same and tell the same. -/
import Derived.Test.YthclaolmmlgalaaSame
import Derived.Test.YthclaolmmlgalaaOps
import Derived.Test.YthclaolmmlgalaaDiskTold
namespace Go.Proofs.Ythclaolmmlgalaa
open Go.RowKit
set_option linter.unusedVariables false
theorem kind_ten (k : Int) : ∃ m : Nat, m < 10 ∧ (wrap64 (k.tmod 10 + 10)).tmod 10 = (m : Int) := by
  have h1 : k.tmod 10 < 10 := Int.tmod_lt_of_pos k (by omega)
  have h2 : -10 < k.tmod 10 := Int.lt_tmod_of_pos k (by omega)
  generalize k.tmod 10 = t at *
  have h3 : wrap64 (t + 10) = t + 10 := by unfold wrap64; omega
  rw [h3, Int.tmod_eq_emod_of_nonneg (by omega)]
  exact ⟨((t + 10) % 10).toNat, by omega, by omega⟩
theorem act_any (K : Nat → Prop) (w : World) (p : Addr) (g : Nat) (M : DiskM.D) (D : Duo K w p g M M) (o : OpV) (ho : o.Ok) (hb : o.b.size ≤ 2000) (hlt : M.l.length < 1000) :
    Calls Try.prog 6 #[.pointer (some p), .pointer (some ⟨g, 0, none⟩), .agg #[.int .i64 o.k, .int .i64 o.n, .string o.name, .string o.to, .string o.b, .bool o.gb]] w fun e w' => ∃ M', e = .returned (.bool true) ∧ Duo K w' p g M' M' ∧ Only (fun k => ¬ K k) w w' ∧ M'.l.length ≤ M.l.length + 1 := by
  obtain ⟨m, hm, hk⟩ := kind_ten o.k
  rcases (by omega : m = 0 ∨ m = 1 ∨ m = 2 ∨ m = 3 ∨ m = 4 ∨ m = 5 ∨ m = 6 ∨ m = 7 ∨ m = 8 ∨ m = 9) with rfl | rfl | rfl | rfl | rfl | rfl | rfl | rfl | rfl | rfl
  · exact act_append K w p g M D o.k o.n o.name o.to o.b o.gb 0 hk (.inl rfl) hb hlt
  · exact act_append K w p g M D o.k o.n o.name o.to o.b o.gb 1 hk (.inr (.inl rfl)) hb hlt
  · exact act_append K w p g M D o.k o.n o.name o.to o.b o.gb 2 hk (.inr (.inr rfl)) hb hlt
  · exact act_sync K w p g M D o.k o.n o.name o.to o.b o.gb hk ho.name
  · exact act_cut K w p g M D o.k o.n o.name o.to o.b o.gb hk ho.name ho.n
  · exact act_rename K w p g M D o.k o.n o.name o.to o.b o.gb hk ho.name ho.to
  · exact act_delete K w p g M D o.k o.n o.name o.to o.b o.gb hk ho.name
  · exact act_room K w p g M D o.k o.n o.name o.to o.b o.gb hk ho.n
  · exact act_crash K w p g M D o.k o.n o.name o.to o.b o.gb hk ho.n
  · exact act_start K w p g M D o.k o.n o.name o.to o.b o.gb hk
/-- Both disks at the beginning. -/
theorem duo_new {w w1 : World} {F : Nat → Prop} {p : Addr} {n : Nat} (hd : DiskR w1 F p (DiskM.fresh n)) (hF : ∀ k, F k → w.heap.size ≤ k) (hs : w.heap.size ≤ w1.heap.size) :
    Duo (fun k => k < w.heap.size) (w1.alloc (.cells #[.slice none 0 0, .int .i64 (n : Int), .bool false] 30)) p w1.heap.size (DiskM.fresh n) (DiskM.fresh n) := by
  have hb : Below w1.heap.size w1 (w1.alloc (.cells #[.slice none 0 0, .int .i64 (n : Int), .bool false] 30)) := (Below.refl _ w1).alloc (Nat.le_refl _) _
  have hz : (w1.alloc (.cells #[.slice none 0 0, .int .i64 (n : Int), .bool false] 30)).heap.size = w1.heap.size + 1 := by simp
  have hc : ∀ i, (w1.alloc (.cells #[.slice none 0 0, .int .i64 (n : Int), .bool false] 30)).cell? ⟨w1.heap.size, i, none⟩ = (#[.slice none 0 0, .int .i64 (n : Int), .bool false] : Array Value)[i]? := fun i => by rw [World.cell?_alloc_mark]
  have hf : ∀ i, (w1.alloc (.cells #[.slice none 0 0, .int .i64 (n : Int), .bool false] 30)).frozen? ⟨w1.heap.size, i, none⟩ = false := fun i => by
    unfold World.frozen?
    rw [heap_alloc_new]
    simp
  refine ⟨_, w1.heap.size + 1, disk_keep hd.tight hb, ⟨by omega, ⟨fun k => absurd k (by simp [DiskM.fresh]), fun i k => absurd k (by simp [DiskM.fresh])⟩, by rw [hz]; omega, ⟨none, 0, hc 0, Nat.le_refl _, .inl ⟨rfl, rfl⟩⟩, hc 1, hc 2, hf, Nat.zero_le _, Nat.zero_le _, fun _ => hc 0⟩, ?_, by omega, by omega, fun k hk => by rw [hz]; omega⟩
  rintro k ⟨hk, hl⟩
  have := hF k hk
  exact ⟨by rw [hz]; omega, by omega, by omega, by omega⟩
theorem plays_bad (w : World) (room : Int) (A : Option Addr) (n c : Nat) (wr : (Lit.int .i64 room).wf = true) (hr : room < 0 ∨ 16777216 < room) :
    Calls Try.prog 3 #[.int .i64 room, .slice A n c] w fun e w' => e = .returned (.bool true) ∧ Below w.heap.size w w' := by
  rcases Int.lt_or_le room 0 with h0 | h0
  · go_enter Try.func3, Try.ntmps3
    go_wp2_with fail
    go_at_call 4
    refine (disk_ok.bad room w hr wr).mono ?_
    rintro e w1 ⟨rfl, hb1⟩
    go_wp2_with fail
    go_at_call 5
    refine (told_any disk_ok _).mono ?_
    rintro e w2 ⟨rfl, hb2⟩
    go_wp2_with fail
    go_ret
    exact ⟨rfl, below_then hb1 hb2⟩
  · have h1 : 16777216 < room := by omega
    go_enter Try.func3, Try.ntmps3
    go_wp2_with fail
    go_at_call 4
    refine (disk_ok.bad room w hr wr).mono ?_
    rintro e w1 ⟨rfl, hb1⟩
    go_wp2_with fail
    go_at_call 5
    refine (told_any disk_ok _).mono ?_
    rintro e w2 ⟨rfl, hb2⟩
    go_wp2_with fail
    go_ret
    exact ⟨rfl, below_then hb1 hb2⟩
def PInv (w : World) (p : Addr) (g : Nat) (n : Nat) (i : Value) (wr : World) : Prop :=
  ∃ (j : Nat) (M : DiskM.D), j ≤ n ∧ j ≤ 40 ∧ i = .int .i64 j ∧ Duo (fun k => k < w.heap.size) wr p g M M ∧ M.l.length ≤ j ∧ Below w.heap.size w wr
set_option maxRecDepth 20000 in
set_option maxHeartbeats 8000000 in
theorem plays_good (w : World) (room : Nat) (A : Option Addr) (l : List OpV) (n c : Nat) (hr : room ≤ 16777216) (hn : l.length = n) (hc : n ≤ c) (hrow : OpRow w A l) (hok : ∀ o ∈ l, o.Ok) :
    Calls Try.prog 3 #[.int .i64 (room : Int), .slice A n c] w fun e w' => e = .returned (.bool true) ∧ Below w.heap.size w w' := by
  have r0 : (0 : Int) ≤ (room : Int) := by omega
  have r1 : (room : Int) ≤ 16777216 := by omega
  have n0 : (0 : Int) ≤ (n : Int) := by omega
  have HN := Lib.hid hn
  have HROW := Lib.hid hrow
  have HOK := Lib.hid hok
  have HC := Lib.hid hc
  clear hn hrow hok hc
  go_enter Try.func3, Try.ntmps3
  go_wp2_with fail
  go_at_call 4
  refine (disk_ok.new_ room w hr).mono ?_
  rintro e w1 ⟨p, F, rfl, hd, hF, hb1⟩
  have HD0 := Lib.hid (duo_new hd hF hb1.size)
  have HB0 : Hid (Below w.heap.size w (w1.alloc (.cells #[.slice none 0 0, .int .i64 (room : Int), .bool false] 30))) := hb1.alloc hb1.size _
  clear hd hF hb1
  go_wp2_with fail
  go_loopw [8] (fun i wr => PInv w p w1.heap.size n i wr) (fun i _ => n - (intOf i).toNat)
  case atStart => exact ⟨0, _, Nat.zero_le _, Nat.zero_le _, rfl, HD0.out, Nat.le_refl _, HB0.out⟩
  case round =>
    obtain ⟨j, M, hjn, hj40, rfl, hduo, hml, hbw⟩ := hrel
    have HDU := Lib.hid hduo
    have HML := Lib.hid hml
    have HBW := Lib.hid hbw
    have j0 : (0 : Int) ≤ (j : Int) := by omega
    clear hduo hml hbw
    by_cases hlt : j < n
    · have j1 : (j : Int) < (n : Int) := by omega
      by_cases h40 : j < 40
      · have j2 : (j : Int) < 40 := by omega
        have hjl : j < l.length := by rw [HN.out]; exact hlt
        obtain ⟨q, rfl, hq, hcell⟩ := HROW.out j hjl
        obtain ⟨o, hoo⟩ : ∃ o, l[j] = o := ⟨_, rfl⟩
        rw [hoo] at hcell
        have HOO : Hid (o.Ok) := HOK.out o (by rw [← hoo]; exact List.getElem_mem hjl)
        have hce : ∀ i, i < 6 → wr.cell? ((q.add (j * 6)).add i) = (o.vals)[i]? := fun i hi => (HBW.out.cell (p := (q.add (j * 6)).add i) (by rw [add_block, add_block]; exact hq)).trans (hcell i hi)
        obtain ⟨k, nn, nm, to, bb, gb⟩ := o
        have e0 : wr.cell? (q.add (j * 6)) = some (.int .i64 k) := by
          have := hce 0 (by omega)
          rw [show (q.add (j * 6)).add 0 = q.add (j * 6) by simp [Addr.add]] at this
          exact this
        have e1 : wr.cell? ⟨(q.add (j * 6)).block, (q.add (j * 6)).off + 1, none⟩ = some (.int .i64 nn) := hce 1 (by omega)
        have e2 : wr.cell? ⟨(q.add (j * 6)).block, (q.add (j * 6)).off + 2, none⟩ = some (.string nm) := hce 2 (by omega)
        have e3 : wr.cell? ⟨(q.add (j * 6)).block, (q.add (j * 6)).off + 3, none⟩ = some (.string to) := hce 3 (by omega)
        have e4 : wr.cell? ⟨(q.add (j * 6)).block, (q.add (j * 6)).off + 4, none⟩ = some (.string bb) := hce 4 (by omega)
        have e5 : wr.cell? ⟨(q.add (j * 6)).block, (q.add (j * 6)).off + 5, none⟩ = some (.bool gb) := hce 5 (by omega)
        clear hce hcell hoo hq
        by_cases hb : 2000 < bb.size
        · have b1 : 2000 < (bb.size : Int) := by omega
          go_wp2_with fail
          go_at_call 5
          refine (told_any disk_ok _).mono ?_
          rintro e w2 ⟨rfl, hb2⟩
          go_wp2_with fail
          go_ret
          exact ⟨rfl, HBW.out.trans (hb2.mono HBW.out.size)⟩
        · have b1 : (bb.size : Int) ≤ 2000 := by omega
          by_cases hm : 100 < nm.size
          · have m1 : 100 < (nm.size : Int) := by omega
            go_wp2_with fail
            go_at_call 5
            refine (told_any disk_ok _).mono ?_
            rintro e w2 ⟨rfl, hb2⟩
            go_wp2_with fail
            go_ret
            exact ⟨rfl, HBW.out.trans (hb2.mono HBW.out.size)⟩
          · have m1 : (nm.size : Int) ≤ 100 := by omega
            by_cases ht : 100 < to.size
            · have t1 : 100 < (to.size : Int) := by omega
              go_wp2_with fail
              go_at_call 5
              refine (told_any disk_ok _).mono ?_
              rintro e w2 ⟨rfl, hb2⟩
              go_wp2_with fail
              go_ret
              exact ⟨rfl, HBW.out.trans (hb2.mono HBW.out.size)⟩
            · have t1 : (to.size : Int) ≤ 100 := by omega
              have HBB : Hid (bb.size ≤ 2000) := by show bb.size ≤ 2000; omega
              have HLT : Hid (M.l.length < 1000) := by show M.l.length < 1000; have := HML.out; omega
              have HJ : Hid (j + 1 ≤ n ∧ j + 1 ≤ 40) := ⟨hlt, h40⟩
              clear hb hm ht
              go_wp2_with fail
              go_at_call 6
              refine (act_any (fun k => k < w.heap.size) wr p w1.heap.size M HDU.out ⟨k, nn, nm, to, bb, gb⟩ HOO.out HBB.out HLT.out).mono ?_
              rintro e w2 ⟨M2, rfl, hd2, ho2, hl2⟩
              have HD2 := Lib.hid hd2
              have HL2 := Lib.hid hl2
              have HB2 : Hid (Below w.heap.size w w2) := HBW.out.trans (ho2.below (fun n hn => Nat.le_of_not_lt hn) HBW.out.size)
              clear hd2 ho2 hl2 e0 e1 e2 e3 e4 e5
              go_wp2_with fail
              go_at_call 7
              refine (same_any _ w2 p w1.heap.size M2 HD2.out).mono ?_
              rintro e w3 ⟨rfl, hb3⟩
              have HD3 := Lib.hid (HD2.out.keep hb3)
              have HB3 := Lib.hid (HB2.out.trans (hb3.mono HB2.out.size))
              clear hb3
              go_wp2_with fail
              go_roundw
              case rel => exact ⟨j + 1, M2, HJ.out.1, HJ.out.2, by go_num, HD3.out, Nat.le_trans HL2.out (Nat.succ_le_succ HML.out), HB3.out⟩
              case measure => simp [intOf]; omega
      · have j2 : (40 : Int) ≤ (j : Int) := by omega
        go_wp2_with fail
        go_at_call 5
        refine (told_any disk_ok _).mono ?_
        rintro e w2 ⟨rfl, hb2⟩
        go_wp2_with fail
        go_ret
        exact ⟨rfl, HBW.out.trans (hb2.mono HBW.out.size)⟩
    · have j1 : (n : Int) ≤ (j : Int) := by omega
      go_wp2_with fail
      go_at_call 5
      refine (told_any disk_ok _).mono ?_
      rintro e w2 ⟨rfl, hb2⟩
      go_wp2_with fail
      go_ret
      exact ⟨rfl, HBW.out.trans (hb2.mono HBW.out.size)⟩
end Go.Proofs.Ythclaolmmlgalaa
