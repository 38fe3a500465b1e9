/- One operation done to both disks: Append. -/
import Derived.Test.YthclaolmmlgalaaAct
import Derived.Test.YthclaolmmlgalaaConv
namespace Go.Proofs.Ythclaolmmlgalaa
open Go.RowKit
set_option linter.unusedVariables false
theorem Duo.other {K : Nat → Prop} {w w' : World} {p : Addr} {g : Nat} {M N : DiskM.D} (D : Duo K w p g M N) (hs : w'.heap.size = w.heap.size) (k : ∀ b, ¬ K b → w'.heap[b]? = w.heap[b]?) : Duo K w' p g M N := by
  obtain ⟨F, h, hd, hx, hF, Kg, Kh, hK⟩ := D
  obtain ⟨h', hx', hh⟩ := hx.same (Nat.le_of_eq hs.symm) (k g Kg) (fun _ => k h Kh)
  refine ⟨F, h', hd.same (Nat.le_of_eq hs.symm) fun b _ fb => k b (hF b fb).2.2.2, hx', fun b fb => ⟨by rw [hs]; exact (hF b fb).1, (hF b fb).2.1, ?_, (hF b fb).2.2.2⟩, Kg, ?_, fun b hb => by rw [hs]; exact hK b hb⟩
  · rcases hh with ⟨rfl, -⟩ | rfl
    · exact (hF b fb).2.2.1
    · have := (hF b fb).1; omega
  · rcases hh with ⟨rfl, -⟩ | rfl
    · exact Kh
    · exact fun y => by have := hK _ y; omega
theorem Duo.store {K : Nat → Prop} {w : World} {p : Addr} {g : Nat} {M N : DiskM.D} (D : Duo K w p g M N) {q : Addr} (hq : K q.block) (u : Value) : Duo K (w.setCell q u) p g M N :=
  D.other (World.size_setCell _ _ _) fun b hb => Below.heap_setCell w q u b fun e => by subst e; exact hb hq
theorem OwnF.same {w w' : World} {g : Nat} {l : List UInt8} (h : OwnF w g l) (hs : w.heap.size ≤ w'.heap.size) (k : w'.heap[g]? = w.heap[g]?) : OwnF w' g l :=
  ⟨Nat.lt_of_lt_of_le h.1 hs, fun i hi => ⟨(World.cell?_of_block k).trans (h.2 i hi).1, (World.frozen?_of_block k).trans (h.2 i hi).2⟩⟩
theorem u8_next (c : UInt8) : ((c.toNat : Int) + 1) % 256 = ((c + 1).toNat : Int) := by
  rw [UInt8.toNat_add]
  have : (1 : UInt8).toNat = 1 := rfl
  rw [this]
  omega
def AppInv (K : Nat → Prop) (w : World) (b z : Nat) (p : Addr) (g : Nat) (N : DiskM.D) (L : Nat) (i : Value) (wr : World) : Prop :=
  ∃ (j : Nat) (l : List UInt8), j ≤ L ∧ i = .int .i64 j ∧ l.length = L ∧ OwnF wr z l ∧ Duo (fun k => (K k ∨ k = b) ∨ k = z) wr p g N N ∧ Only (fun k => ¬ K k) w wr
theorem AppInv.next {K : Nat → Prop} {w : World} {b z : Nat} {p : Addr} {g : Nat} {N : DiskM.D} {L : Nat} {wr : World} {j : Nat} {l : List UInt8} (hz : ¬ K z) (hj : j < L) (hl : l.length = L) (ho : OwnF wr z l) (hd : Duo (fun k => (K k ∨ k = b) ∨ k = z) wr p g N N) (hk : Only (fun k => ¬ K k) w wr) (x : Int) (hx : x = ((l[j]'(by omega)).toNat + 1 : Int) % 256) (y : Int) (hy : y = ((j + 1 : Nat) : Int)) :
    AppInv K w b z p g N L (.int .i64 y) (wr.setCell ⟨z, j, none⟩ (.int .u8 x)) := by
  subst hx hy
  refine ⟨j + 1, l.set j (l[j]'(by omega) + 1), hj, rfl, by rw [List.length_set]; exact hl, ?_, hd.store (.inr rfl) _, hk.setCell (.inl hz) _⟩
  rw [u8_next]
  exact ho.put j (by omega) _
set_option maxRecDepth 20000 in
set_option maxHeartbeats 4000000 in
theorem act_append (K : Nat → Prop) (w : World) (p : Addr) (g : Nat) (M : DiskM.D) (D : Duo K w p g M M) (k n : Int) (nm to bb : ByteArray) (gb : Bool) (m : Int) (hk : (wrap64 (k.tmod 10 + 10)).tmod 10 = m) (hm : m = 0 ∨ m = 1 ∨ m = 2) (hbb : bb.size ≤ 2000) (hlt : M.l.length < 1000) :
    Calls Try.prog 6 #[.pointer (some p), .pointer (some ⟨g, 0, none⟩), .agg #[.int .i64 k, .int .i64 n, .string nm, .string to, .string bb, .bool gb]] w fun e w' => ∃ M', e = .returned (.bool true) ∧ Duo K w' p g M' M' ∧ Only (fun k => ¬ K k) w w' ∧ M'.l.length ≤ M.l.length + 1 := by
  obtain ⟨hri, hfew, hok, hsm, hro⟩ := D.facts
  obtain ⟨x, hx⟩ : ∃ x, DiskM.append M nm.data.toList bb.data.toList = x := ⟨_, rfl⟩
  obtain ⟨r, N⟩ := x
  have hb : Below w.heap.size w (w.alloc (.cells #[.int .i64 k, .int .i64 n, .string nm, .string to, .string bb, .bool gb] 32)) := (Below.refl _ w).alloc (Nat.le_refl _) _
  have d1 := D.with_ hb w.heap.size (Nat.le_refl _) (by simp)
  obtain ⟨w1, hw1⟩ : ∃ w1, w1 = w.alloc (.cells #[.int .i64 k, .int .i64 n, .string nm, .string to, .string bb, .bool gb] 32) := ⟨_, rfl⟩
  have hz1 : w1.heap.size = w.heap.size + 1 := by rw [hw1]; simp
  have hbx : ∀ i, w1.cell? ⟨w.heap.size, i, none⟩ = (#[.int .i64 k, .int .i64 n, .string nm, .string to, .string bb, .bool gb] : Array Value)[i]? := fun i => by rw [hw1, World.cell?_alloc_mark]
  rw [← hw1] at hb d1
  obtain ⟨W2, c2, hcv, bW2, hc2, own2⟩ := conv_own w1 bb
  obtain ⟨z, hz⟩ : ∃ z, w1.heap.size = z := ⟨_, rfl⟩
  rw [hz] at hcv own2
  have hzl : z < W2.heap.size := own2.1
  have d2 := d1.with_ bW2 z (Nat.le_of_eq hz) hzl
  have hbl : bb.data.toList.length = bb.size := by simp
  have DS : Hid (∀ W, Bs W W.heap.size (some ⟨z, 0, none⟩) bb.data.toList → Duo (fun k => (K k ∨ k = w.heap.size) ∨ k = z) W p g M M → Calls Try.prog 8 #[.pointer (some p), .string nm, .slice (some ⟨z, 0, none⟩) bb.size c2] W fun e w' => e = .returned (.int .i64 r) ∧ Duo (fun k => (K k ∨ k = w.heap.size) ∨ k = z) w' p g N M ∧ Only (fun k => ¬ ((K k ∨ k = w.heap.size) ∨ k = z)) W w') := fun W hbs h => by
    have q := h.d_step fun F hd => disk_ok.append hd nm (some ⟨z, 0, none⟩) bb.data.toList c2 (by rw [hbl]; omega) (fun e => nomatch e) hbs hlt
    rw [hx, hbl] at q
    exact q
  have XS : Hid (∀ W, Duo (fun k => (K k ∨ k = w.heap.size) ∨ k = z) W p g N M → Calls Try.prog 13 #[.pointer (some ⟨g, 0, none⟩), .string nm, .string bb] W fun e w' => e = .returned (.int .i64 r) ∧ Duo (fun k => (K k ∨ k = w.heap.size) ∨ k = z) w' p g N N ∧ Only (fun k => ¬ ((K k ∨ k = w.heap.size) ∨ k = z)) W w') := fun W h => by
    obtain ⟨_, f2, _, f4, _⟩ := h.facts
    have q := h.x_step fun h' hd => rappend_any W g h' M hd nm bb hri (by omega) hro (by rw [hx]; exact f2) (by rw [hx]; exact f4)
    rw [hx] at q
    exact q
  have HL : Hid (N.l.length ≤ M.l.length + 1) := by
    have q := DiskM.append_len M nm.data.toList bb.data.toList
    rw [hx] at q
    exact q
  have HB : Hid (Below w.heap.size w W2) := hb.trans (bW2.mono hb.size)
  have c4 : W2.drew.cell? ⟨w.heap.size, 2, none⟩ = some (.string nm) ∧ W2.drew.cell? ⟨w.heap.size, 4, none⟩ = some (.string bb) := by
    have q : ∀ i, W2.cell? ⟨w.heap.size, i, none⟩ = w1.cell? ⟨w.heap.size, i, none⟩ := fun i => bW2.cell (show w.heap.size < _ by rw [hz1]; exact Nat.lt_succ_self _)
    exact ⟨(q 2).trans (hbx 2), (q 4).trans (hbx 4)⟩
  have HS0 := Lib.hid c4
  have HK : Hid (∀ W W', Only (fun k => ¬ ((K k ∨ k = w.heap.size) ∨ k = z)) W W' → (W.cell? ⟨w.heap.size, 2, none⟩ = some (.string nm) ∧ W.cell? ⟨w.heap.size, 4, none⟩ = some (.string bb)) → (W'.cell? ⟨w.heap.size, 2, none⟩ = some (.string nm) ∧ W'.cell? ⟨w.heap.size, 4, none⟩ = some (.string bb))) := fun W W' ho hc => ⟨ho.cell_in (.inl (.inr rfl)) hc.1, ho.cell_in (.inl (.inr rfl)) hc.2⟩
  have HD2 := Lib.hid d2.drew
  have HO2 := Lib.hid own2
  have HBS : Hid (Bs W2.drew W2.drew.heap.size (some ⟨z, 0, none⟩) bb.data.toList) := own2.reads
  have HOF : Hid (∀ W W', Only (fun k => ¬ ((K k ∨ k = w.heap.size) ∨ k = z)) W2.drew W → Only (fun k => ¬ ((K k ∨ k = w.heap.size) ∨ k = z)) W W' → OwnF W' z bb.data.toList ∧ Only (fun k => ¬ K k) w W') := fun W W' ho ho' => by
    have e1 := ho.block z hzl (fun x => x (.inr rfl))
    have e2 := ho'.block z (Nat.lt_of_lt_of_le hzl ho.size) (fun x => x (.inr rfl))
    refine ⟨own2.same (Nat.le_trans ho.size ho'.size) (e2.trans e1), ?_⟩
    have k1 : Only (fun k => ¬ K k) W2.drew W := ho.wider fun k hk x => hk (.inl (.inl x))
    have k2 : Only (fun k => ¬ K k) W W' := ho'.wider fun k hk x => hk (.inl (.inl x))
    exact ((Only.of_below HB.out.drew).trans k1 fun n x => .inl x).trans k2 fun n x => .inl x
  have HKZ : Hid (¬ K z) := fun x => by
    obtain ⟨F, h, _, _, _, _, _, hK⟩ := D
    have := hK z x
    omega
  have b0 : (0 : Int) ≤ (bb.size : Int) := by omega
  have b1 : (bb.size : Int) ≤ 2000 := by omega
  have hzw : z = w1.heap.size := hz.symm
  have cv1 : (convert 9 40 (.string bb)).run Try.prog (w.alloc (.cells #[.int .i64 k, .int .i64 n, .string nm, .string to, .string bb, .bool gb] 32)) = .ok (.slice (some ⟨z, 0, none⟩) bb.size c2) W2 := by rw [← hw1]; exact hcv
  have HBL := Lib.hid hbl
  clear D hri hfew hok hsm hro hx hb hbx d1 d2 hcv own2 bW2 c4 hz hz1 hzw hw1 hzl hbl hlt
  rcases hm with rfl | rfl | rfl
  all_goals
    go_enter Try.func6, Try.ntmps6
    go_wp2_with fail
    go_region_held3 (fun W => W.cell? ⟨w.heap.size, 2, none⟩ = some (.string nm) ∧ W.cell? ⟨w.heap.size, 4, none⟩ = some (.string bb)) (first | exact HS0.out | exact HK.out _ _ (by assumption) (by assumption) | assumption) (first
      | (go_at_call 8; with_reducible refine (DS.out _ HBS.out HD2.out).mono ?_; rintro e w' ⟨rfl, hd, ho⟩)
      | (go_at_call 13; with_reducible refine (XS.out _ (by assumption)).mono ?_; rintro e w' ⟨rfl, hd, ho⟩))
    rename_i wm hdm hom hHeld
    obtain ⟨hof, hon⟩ := HOF.out _ _ hom ho
    have HOF2 := Lib.hid hof
    have HON := Lib.hid hon
    have HD5 := Lib.hid hd
    clear hof hon hd ho hom hdm hHeld
    go_wp2_with fail
    go_loopw [9] (fun i wr => AppInv K w w.heap.size z p g N bb.size i wr) (fun i _ => bb.size - (intOf i).toNat)
    case atStart => exact ⟨0, bb.data.toList, Nat.zero_le _, rfl, HBL.out, HOF2.out, HD5.out, HON.out⟩
    case round =>
      obtain ⟨j, l, hj, rfl, hll, hof, hd, hon⟩ := hrel
      have HLL := Lib.hid hll
      have HOFr := Lib.hid hof
      have HDr := Lib.hid hd
      have HONr := Lib.hid hon
      have j0 : (0 : Int) ≤ (j : Int) := by omega
      clear hll hof hd hon
      by_cases hlt : j < bb.size
      · have j1 : (j : Int) < (bb.size : Int) := by omega
        have hjl : j < l.length := by rw [HLL.out]; exact hlt
        obtain ⟨f1, f2⟩ := HOFr.out.2 j hjl
        have NX : Hid (∀ x y, x = ((l[j]'hjl).toNat + 1 : Int) % 256 → y = ((j + 1 : Nat) : Int) → AppInv K w w.heap.size z p g N bb.size (.int .i64 y) (wr.setCell ⟨z, j, none⟩ (.int .u8 x))) := fun x y hx hy => AppInv.next HKZ.out hlt HLL.out HOFr.out HDr.out HONr.out x hx y hy
        go_wp2_with fail
        go_roundw
        case rel => exact NX.out _ _ (by first | rfl | (simp; done)) (by go_num)
        case measure => simp [intOf]; omega
      · have j1 : (bb.size : Int) ≤ (j : Int) := by omega
        go_wp2_with fail
        go_ret
        exact ⟨N, rfl, HDr.out.less (fun k hk => Or.inl (Or.inl hk)), HONr.out, HL.out⟩
end Go.Proofs.Ythclaolmmlgalaa
