/- The document's own disk: the calls that turn its row: Sync, Delete. -/
import Derived.Test.YthclaolmmlgalaaRefMade
import Derived.BigRegion
import Derived.BigQuiet
namespace Go.Proofs.Ythclaolmmlgalaa
open Go.RowKit
set_option linter.unusedVariables false

/-- A file's cells. -/
def fcell (f : DiskM.F) : Nat → Value
  | 0 => .string ⟨f.name.toArray⟩
  | 1 => .string ⟨f.b.toArray⟩
  | _ => .int .i64 (f.sync : Int)
theorem Files.each {w : World} {h : Nat} {l : List DiskM.F} (F : Files w h l) (i r : Nat) (hi : i < l.length) (hr : r < 3) : w.cell? ⟨h, i * 3 + r, none⟩ = some (fcell l[i] r) := by
  obtain ⟨a, b, c, _⟩ := F.2 i hi
  rcases (by omega : r = 0 ∨ r = 1 ∨ r = 2) with rfl | rfl | rfl
  · exact a
  · exact b
  · exact c
theorem Files.of_each {w : World} {h : Nat} {l : List DiskM.F} (hh : h < w.heap.size) (hfr : ∀ j, w.frozen? ⟨h, j, none⟩ = false) (k : ∀ i r (hi : i < l.length), r < 3 → w.cell? ⟨h, i * 3 + r, none⟩ = some (fcell l[i] r)) : Files w h l :=
  ⟨fun _ => hh, fun i hi => ⟨k i 0 hi (by omega), k i 1 hi (by omega), k i 2 hi (by omega), hfr⟩⟩
theorem Files.put {w : World} {h : Nat} {l : List DiskM.F} (F : Files w h l) (k r : Nat) (hk : k < l.length) (hr : r < 3) (f : DiskM.F) (hf : ∀ q, q < 3 → q ≠ r → fcell f q = fcell l[k] q) : Files (w.setCell ⟨h, k * 3 + r, none⟩ (fcell f r)) h (l.set k f) := by
  have hfr : ∀ j, w.frozen? ⟨h, j, none⟩ = false := (F.2 k hk).2.2.2
  refine Files.of_each (by rw [World.size_setCell]; exact F.1 (by omega)) (fun j => by rw [World.frozen?_setCell]; exact hfr j) fun i q hi hq => ?_
  have hi' : i < l.length := by simpa using hi
  have old := F.each i q hi' hq
  by_cases e : i = k ∧ q = r
  · obtain ⟨rfl, rfl⟩ := e
    rw [World.cell?_setCell_same _ _ _ old]
    simp
  · have ne : (⟨h, k * 3 + r, none⟩ : Addr) ≠ ⟨h, i * 3 + q, none⟩ := fun z => by
      injection z with _ z
      exact e ⟨by omega, by omega⟩
    rw [World.cell?_setCell_other _ _ _ _ ne, old, List.getElem_set]
    split
    · rename_i z
      subst z
      rw [hf q hq (fun z => e ⟨rfl, z⟩)]
    · rfl
/-- The disk with its row turned in place. -/
theorem RD.row_put {w : World} {g h : Nat} {M : DiskM.D} (R : RD w g h M) (j : Nat) (u : Value) (l : List DiskM.F) (hl : l.length = M.l.length) (hF : Files (w.setCell ⟨h, j, none⟩ u) h l) (hs : DiskM.used l ≤ 16777216) : RD (w.setCell ⟨h, j, none⟩ u) g h { M with l := l } := by
  obtain ⟨A, c, c0, hc, hA⟩ := R.l
  have ne : ∀ i, (⟨h, j, none⟩ : Addr) ≠ ⟨g, i, none⟩ := fun i z => R.ne (by injection z with z; exact z.symm)
  refine ⟨R.ne, hF, by rw [World.size_setCell]; exact R.lt, ⟨A, c, ?_, by rw [hl]; exact hc, hA⟩, ?_, ?_, fun i => by rw [World.frozen?_setCell]; exact R.free i, by rw [hl]; exact R.few, hs, fun k => by rw [World.cell?_setCell_other _ _ _ _ (ne 0)]; exact R.real (by rw [World.size_setCell] at k; exact k)⟩
  · rw [World.cell?_setCell_other _ _ _ _ (ne 0), hl]; exact c0
  · rw [World.cell?_setCell_other _ _ _ _ (ne 1)]; exact R.max
  · rw [World.cell?_setCell_other _ _ _ _ (ne 2)]; exact R.down
/-- The disk with a new row. -/
theorem RD.new_row {w W : World} {g h : Nat} {M : DiskM.D} (R : RD w g h M) {v : Value} {m : Nat} {l : List DiskM.F} (hb : Below w.heap.size w W) (ho : W.ownsRow w.heap.size 52 3 v m (fcells l)) (hm : l.length = m) (hf : l.length ≤ 1000) (hs : DiskM.used l ≤ 16777216) :
    ∃ h', RD (W.setCell ⟨g, 0, none⟩ v) g h' { M with l := l } ∧ (h' = h ∨ w.heap.size ≤ h') := by
  subst hm
  obtain ⟨A, c, c0, hc, hA⟩ := R.l
  have hl : ∀ i, W.cell? ⟨g, i, none⟩ = w.cell? ⟨g, i, none⟩ := fun i => hb.cell R.lt
  have hfr : ∀ i, W.frozen? ⟨g, i, none⟩ = w.frozen? ⟨g, i, none⟩ := fun i => hb.frozen R.lt
  have k0 : (W.setCell ⟨g, 0, none⟩ v).cell? ⟨g, 0, none⟩ = some v := World.cell?_setCell_same _ _ _ ((hl 0).trans c0)
  have k1 : (W.setCell ⟨g, 0, none⟩ v).cell? ⟨g, 1, none⟩ = some (.int .i64 (M.max : Int)) := by rw [World.cell?_setCell_other _ _ _ _ (fun e => by injection e; omega), hl]; exact R.max
  have k2 : (W.setCell ⟨g, 0, none⟩ v).cell? ⟨g, 2, none⟩ = some (.bool M.down) := by rw [World.cell?_setCell_other _ _ _ _ (fun e => by injection e; omega), hl]; exact R.down
  have kf : ∀ i, (W.setCell ⟨g, 0, none⟩ v).frozen? ⟨g, i, none⟩ = false := fun i => by rw [World.frozen?_setCell, hfr]; exact R.free i
  have hgs : g < (W.setCell ⟨g, 0, none⟩ v).heap.size := by rw [World.size_setCell]; exact Nat.lt_of_lt_of_le R.lt hb.size
  rcases ho.2 with ⟨rfl, h0⟩ | ⟨b, cap, cur, rfl, hbase, hbk, hcc, _, hsz, htk⟩
  · have e : l = [] := List.eq_nil_of_length_eq_zero h0
    subst e
    exact ⟨h, ⟨R.ne, ⟨fun k => absurd k (by simp), fun i k => absurd k (by simp)⟩, hgs, ⟨none, 0, k0, Nat.le_refl _, .inl ⟨rfl, rfl⟩⟩, k1, k2, kf, Nat.zero_le _, Nat.zero_le _, fun _ => k0⟩, .inl rfl⟩
  · have hbg : b ≠ g := fun e => by have := R.lt; omega
    have hlt : b < W.heap.size := (Array.getElem?_eq_some_iff.1 hbk).1
    refine ⟨b, ⟨Ne.symm hbg, Files.of_each (by rw [World.size_setCell]; exact hlt) (fun j => ?_) (fun i r hi hr => ?_), hgs, ⟨_, cap, k0, hcc, .inr rfl⟩, k1, k2, kf, hf, hs, fun k => absurd k (by rw [World.size_setCell]; omega)⟩, .inr hbase⟩
    · rw [World.frozen?_setCell]
      simp [World.frozen?, hbk]
    · rw [World.cell?_setCell_other _ _ _ _ (fun e => hbg (by injection e with e; exact e.symm))]
      have hu : (fcells l)[i * 3 + r]? = some (fcell l[i] r) := by
        obtain ⟨x, y, z⟩ := fcells_at l i hi
        rcases (by omega : r = 0 ∨ r = 1 ∨ r = 2) with rfl | rfl | rfl
        · exact x
        · exact y
        · exact z
      have := ho.cells (g := b) rfl (i * 3 + r) _ hu
      rw [Addr.add_lit, Nat.zero_add] at this
      exact this
theorem RD.drew {w : World} {g h : Nat} {M : DiskM.D} (R : RD w g h M) : RD w.drew g h M := ⟨R.ne, R.row, R.lt, R.l, R.max, R.down, R.free, R.few, R.small, R.real⟩
theorem Only.ref {g h : Nat} {w W : World} (hb : Below w.heap.size w W) (v : Value) : Only (fun k => k = g ∨ k = h) w (W.setCell ⟨g, 0, none⟩ v) := (Only.of_below hb).setCell (p := ⟨g, 0, none⟩) (.inl (.inl rfl)) v
/-- The place of a file that there is. -/
theorem have_at {M : DiskM.D} {s : List UInt8} {x : DiskM.F} (hv : DiskM.have_ M s = .ok x) : ∃ (k : Nat) (hk : k < M.l.length), haveAt M s = ((k : Int), 0) ∧ M.l[k] = x ∧ x.name = s ∧ DiskM.find M.l s = some x := by
  unfold DiskM.have_ at hv
  split at hv
  · cases hv
  · rename_i hd
    split at hv
    · rename_i y hy
      injection hv with hv
      subst hv
      have hp : ¬ place M.l s < 0 := fun z => by rw [place_no z] at hy; cases hy
      obtain ⟨k, hk, e1, e2, e3⟩ := place_yes hp
      rw [hy] at e2
      injection e2 with e2
      refine ⟨k, hk, ?_, e2.symm, by rw [e2]; exact e3, hy⟩
      unfold haveAt
      rw [if_neg hd, if_neg hp, e1]
    · cases hv
theorem have_err {M : DiskM.D} {s : List UInt8} {r : Int} (hv : DiskM.have_ M s = .error r) : haveAt M s = (0, r) ∧ r ≠ 0 := by
  unfold DiskM.have_ at hv
  unfold haveAt
  split at hv
  · rename_i hd
    injection hv with hv
    subst hv
    rw [if_pos hd]
    exact ⟨rfl, by decide⟩
  · rename_i hd
    split at hv
    · cases hv
    · rename_i hn
      injection hv with hv
      subst hv
      have hp : place M.l s < 0 := by
        by_cases z : place M.l s < 0
        · exact z
        · obtain ⟨k, hk, e1, e2, e3⟩ := place_yes z
          rw [hn] at e2
          cases e2
      rw [if_neg hd, if_pos hp]
      exact ⟨rfl, by decide⟩
theorem put_set {l : List DiskM.F} (hr : DiskM.Rises l) (k : Nat) (hk : k < l.length) (f : DiskM.F) (hf : f.name = l[k].name) : DiskM.put l f = l.set k f := by
  have e : l = l.take k ++ l[k] :: l.drop (k + 1) := by
    rw [← List.drop_eq_getElem_cons hk, List.take_append_drop]
  have hr' := hr
  rw [e] at hr'
  have h1 := DiskM.put_split (l.take k) l[k] (l.drop (k + 1)) f hr' hf
  rw [← e] at h1
  rw [h1, List.set_eq_take_append_cons_drop, if_pos hk]
set_option maxRecDepth 20000 in
set_option maxHeartbeats 4000000 in
theorem rsync_any (w : World) (g h : Nat) (M : DiskM.D) (R : RD w g h M) (s : ByteArray) (hr : DiskM.Rises M.l) :
    RDoes 14 #[.pointer (some ⟨g, 0, none⟩), .string s] (.int .i64 (DiskM.sync M s.data.toList).1) w g h (DiskM.sync M s.data.toList).2 := by
  have HR := Lib.hid R
  have hdr : DiskM.sync M s.data.toList = match DiskM.have_ M s.data.toList with
    | .error e => (e, M)
    | .ok f => (0, { M with l := DiskM.put M.l ⟨s.data.toList, f.b, f.b.length⟩ }) := rfl
  unfold RDoes
  rw [hdr]
  cases hv : DiskM.have_ M s.data.toList with
  | error r =>
    obtain ⟨ha, r0⟩ := have_err hv
    have HA := Lib.hid ha
    clear hv hdr ha R
    dsimp only
    go_enter Try.func14, Try.ntmps14
    go_wp2_with fail
    go_at_call 39
    refine (have_any w g h M HR.out s).mono ?_
    rintro e w' ⟨rfl, rfl⟩
    rw [HA.out]
    go_wp2_with fail
    go_ret
    exact ⟨rfl, ⟨h, HR.out, .inl rfl⟩, Only.refl _ _⟩
  | ok x =>
    obtain ⟨k, hk, ha, hkx, hxs, hfd⟩ := have_at hv
    obtain ⟨A, c, c0, hc, hA⟩ := R.l
    have hA' : A = some ⟨h, 0, none⟩ := by
      rcases hA with ⟨_, z⟩ | z
      · omega
      · exact z
    subst hA'
    have f1 := R.row.each k 1 hk (by omega)
    have f2 := R.row.each k 2 hk (by omega)
    have fr := (R.row.2 k hk).2.2.2 (k * 3 + 2)
    rw [hkx] at f1 f2
    have hps : DiskM.put M.l ⟨s.data.toList, x.b, x.b.length⟩ = M.l.set k ⟨s.data.toList, x.b, x.b.length⟩ := put_set hr k hk _ (by rw [hkx, hxs])
    have hsm : DiskM.used (DiskM.put M.l ⟨s.data.toList, x.b, x.b.length⟩) ≤ 16777216 := by
      have u := (DiskM.used_put (l := M.l) ⟨s.data.toList, x.b, x.b.length⟩ hr).1
      have u' : DiskM.used (DiskM.put M.l ⟨s.data.toList, x.b, x.b.length⟩) + DiskM.len M.l s.data.toList = DiskM.used M.l + x.b.length := u
      have hl : DiskM.len M.l s.data.toList = x.b.length := by unfold DiskM.len; rw [hfd]
      have := R.small
      omega
    have hF := R.row.put k 2 hk (by omega) ⟨s.data.toList, x.b, x.b.length⟩ (fun q hq hne => by
      rw [hkx]
      rcases (by omega : q = 0 ∨ q = 1) with rfl | rfl
      · show Value.string _ = Value.string _; rw [hxs]
      · rfl)
    have HRF := Lib.hid (R.row_put (k * 3 + 2) _ _ (by simp) hF (by rw [← hps]; exact hsm))
    have HA := Lib.hid ha
    dsimp only
    rw [hps]
    obtain ⟨b, hb⟩ : ∃ b : ByteArray, (⟨x.b.toArray⟩ : ByteArray) = b := ⟨_, rfl⟩
    have hbl : x.b.length = b.size := by rw [← hb]; rfl
    obtain ⟨y, hy⟩ : ∃ y, x.sync = y := ⟨_, rfl⟩
    have f1' : w.cell? ⟨h, k * 3 + 1, none⟩ = some (.string b) := by rw [f1, ← hb]; rfl
    have f2' : w.cell? ⟨h, k * 3 + 2, none⟩ = some (.int .i64 (y : Int)) := by rw [f2, ← hy]; rfl
    obtain ⟨n, hn⟩ : ∃ n, M.l.length = n := ⟨_, rfl⟩
    rw [hn] at c0 hc hk
    have k0 : (0 : Int) ≤ (k : Int) := by omega
    have k1 : (k : Int) < (n : Int) := by omega
    have HBL := Lib.hid hbl
    clear hv hdr ha R hr f1 f2 hps hsm hF hb hbl hfd hkx hxs hA hn hy
    go_enter Try.func14, Try.ntmps14
    go_wp2_with fail
    go_at_call 39
    refine (have_any w g h M HR.out s).mono ?_
    rintro e w' ⟨rfl, rfl⟩
    rw [HA.out]
    go_wp2_with fail
    go_region
    go_wp2_with fail
    go_ret
    have e : (b.size : Int) = (x.b.length : Int) := by rw [HBL.out]
    have HD := HRF.out
    refine ⟨rfl, ⟨h, ?_, .inl rfl⟩, ?_⟩
    · rw [e]
      exact HD.drew
    · exact ((Only.refl (fun k => k = g ∨ k = h) w).setCell (p := ⟨h, k * 3 + 2, none⟩) (.inl (.inr rfl)) _).drew
theorem del_set {l : List DiskM.F} (hr : DiskM.Rises l) (k : Nat) (hk : k < l.length) : DiskM.out l l[k].name = l.take k ++ l.drop (k + 1) := by
  have e : l = l.take k ++ l[k] :: l.drop (k + 1) := by
    rw [← List.drop_eq_getElem_cons hk, List.take_append_drop]
  have hr' := hr
  rw [e] at hr'
  obtain ⟨h1, h2, h3⟩ := List.pairwise_append.1 hr'
  obtain ⟨h4, h5⟩ := List.pairwise_cons.1 h2
  generalize hn : l[k] = x at *
  conv => lhs; rw [e]
  unfold DiskM.out
  rw [List.filter_append, List.filter_cons, if_neg (by simp)]
  congr 1
  · rw [List.filter_eq_self]
    intro y hy
    have := DiskM.lt_ne (h3 y hy x (by simp))
    simpa using this
  · rw [List.filter_eq_self]
    intro y hy
    have := DiskM.lt_ne (h4 y hy)
    simpa using Ne.symm this
set_option maxRecDepth 20000 in
set_option maxHeartbeats 4000000 in
theorem rdelete_any (w : World) (g h : Nat) (M : DiskM.D) (R : RD w g h M) (s : ByteArray) (hr : DiskM.Rises M.l) :
    RDoes 20 #[.pointer (some ⟨g, 0, none⟩), .string s] (.int .i64 (DiskM.delete M s.data.toList).1) w g h (DiskM.delete M s.data.toList).2 := by
  have HR := Lib.hid R
  have hdr : DiskM.delete M s.data.toList = match DiskM.have_ M s.data.toList with
    | .error e => (e, M)
    | .ok _ => (0, { M with l := DiskM.out M.l s.data.toList }) := rfl
  unfold RDoes
  rw [hdr]
  cases hv : DiskM.have_ M s.data.toList with
  | error r =>
    obtain ⟨ha, r0⟩ := have_err hv
    have HA := Lib.hid ha
    clear hv hdr ha R
    dsimp only
    go_enter Try.func20, Try.ntmps20
    go_wp2_with fail
    go_at_call 39
    refine (have_any w g h M HR.out s).mono ?_
    rintro e w' ⟨rfl, rfl⟩
    rw [HA.out]
    go_wp2_with fail
    go_ret
    exact ⟨rfl, ⟨h, HR.out, .inl rfl⟩, Only.refl _ _⟩
  | ok x =>
    obtain ⟨k, hk, ha, hkx, hxs, hfd⟩ := have_at hv
    obtain ⟨A, c, c0, hc, hA⟩ := R.l
    have hA' : A = some ⟨h, 0, none⟩ := by
      rcases hA with ⟨_, z⟩ | z
      · omega
      · exact z
    subst hA'
    have hout : DiskM.out M.l s.data.toList = M.l.take k ++ M.l.drop (k + 1) := by rw [← hxs, ← hkx]; exact del_set hr k hk
    obtain ⟨u1, u2⟩ := DiskM.used_out (l := M.l) s.data.toList hr
    have hsm := R.small
    have hfw := R.few
    have hw := out_walk w g h M.l M.l.length c k rfl R.row c0 (R.free 0) hc hk R.few R.ne
    rw [hfd] at u2
    simp at u2
    have hol : (DiskM.out M.l s.data.toList).length = M.l.length - 1 := by omega
    have HEND : Hid (∀ {v : Value} {W : World}, Below w.heap.size w W → W.ownsRow w.heap.size 52 3 v (M.l.length - 1) (fcells (M.l.take k ++ M.l.drop (k + 1))) → ∃ h', RD (W.setCell ⟨g, 0, none⟩ v) g h' { M with l := DiskM.out M.l s.data.toList } ∧ (h' = h ∨ w.heap.size ≤ h')) := fun {v W} hb ho => by
      rw [← hout] at ho
      exact R.new_row hb ho hol (by omega) (by omega)
    have HA := Lib.hid ha
    have HW := Lib.hid hw
    clear hv hdr ha R hr hout u1 u2 hsm hfw hw hol hA hfd hkx hxs
    dsimp only
    go_enter Try.func20, Try.ntmps20
    go_wp2_with fail
    go_at_call 39
    refine (have_any w g h M HR.out s).mono ?_
    rintro e w' ⟨rfl, rfl⟩
    rw [HA.out]
    go_wp2_with fail
    go_at_call 42
    refine HW.out.mono ?_
    rintro e w' ⟨rfl, v, W, rfl, hb, ho⟩
    have HE := Lib.hid (HEND.out hb ho)
    have HO := Lib.hid (Only.ref (h := h) (g := g) hb v)
    clear hb ho
    go_wp2_with fail
    go_ret
    exact ⟨rfl, HE.out, HO.out⟩
end Go.Proofs.Ythclaolmmlgalaa
