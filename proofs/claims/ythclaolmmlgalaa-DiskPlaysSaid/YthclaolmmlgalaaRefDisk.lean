/- The document's own disk (scriptoriumref3.Disk) in memory: a struct of three cells, a row of files of three cells each; what its calls that only look tell. -/
import Derived.Test.YthclaolmmlgalaaFrame
import Derived.Test.YthclaolmmlgalaaDiskM
namespace Go.Proofs.Ythclaolmmlgalaa
open Go.RowKit
set_option linter.unusedVariables false
/-- Block h is a row of these files. -/
def Files (w : World) (h : Nat) (l : List DiskM.F) : Prop := (0 < l.length → h < w.heap.size) ∧ ∀ i (k : i < l.length),
  w.cell? ⟨h, i * 3, none⟩ = some (.string ⟨l[i].name.toArray⟩) ∧ w.cell? ⟨h, i * 3 + 1, none⟩ = some (.string ⟨l[i].b.toArray⟩) ∧ w.cell? ⟨h, i * 3 + 2, none⟩ = some (.int .i64 (l[i].sync : Int)) ∧
  ∀ j, w.frozen? ⟨h, j, none⟩ = false
/-- Block g is a disk of the document's: its row lies in block h. -/
structure RD (w : World) (g h : Nat) (M : DiskM.D) : Prop where
  ne : g ≠ h
  row : Files w h M.l
  lt : g < w.heap.size
  l : ∃ A c, w.cell? ⟨g, 0, none⟩ = some (.slice A M.l.length c) ∧ M.l.length ≤ c ∧ ((A = none ∧ c = 0) ∨ A = some ⟨h, 0, none⟩)
  max : w.cell? ⟨g, 1, none⟩ = some (.int .i64 (M.max : Int))
  down : w.cell? ⟨g, 2, none⟩ = some (.bool M.down)
  free : ∀ i, w.frozen? ⟨g, i, none⟩ = false
  few : M.l.length ≤ 1000
  small : DiskM.used M.l ≤ 16777216
  real : w.heap.size ≤ h → w.cell? ⟨g, 0, none⟩ = some (.slice none 0 0)
theorem find_place (l : List DiskM.F) (s : List UInt8) (k : Nat) (hk : k < l.length) (h : ∀ i (hi : i < l.length), i < k → l[i].name ≠ s) (e : l[k].name = s) : l.findIdx (fun f => f.name == s) = k := by
  rw [List.findIdx_eq hk]
  exact ⟨by simp [e], fun j hj => by simp [h j (by omega) hj]⟩
/-- A file's place; -1. -/
def place (l : List DiskM.F) (s : List UInt8) : Int := if l.findIdx (fun f => f.name == s) < l.length then (l.findIdx (fun f => f.name == s) : Int) else -1
set_option maxHeartbeats 2000000 in
theorem find_any (w : World) (g h : Nat) (M : DiskM.D) (R : RD w g h M) (s : ByteArray) :
    Calls Try.prog 46 #[.pointer (some ⟨g, 0, none⟩), .string s] w fun e w' => e = .returned (.int .i64 (place M.l s.data.toList)) ∧ w = w' := by
  obtain ⟨A, c, c0, hc, hA⟩ := R.l
  have HR := Lib.hid R
  have hf := R.few
  have HA := Lib.hid hA
  clear R hA
  obtain ⟨n, hn⟩ : ∃ n, M.l.length = n := ⟨_, rfl⟩
  have HN := Lib.hid hn
  rw [hn] at c0 hc hf
  have n9 : (n : Int) ≤ 1000 := by omega
  have nc : (n : Int) ≤ (c : Int) := by omega
  clear hn
  go_enter Try.func46, Try.ntmps46
  go_wp2_with fail
  go_loop [5] (fun i => ∃ k : Nat, k ≤ n ∧ i = .int .i64 k ∧ ∀ j (hj : j < M.l.length), j < k → M.l[j].name ≠ s.data.toList) (fun i => n - (intOf i).toNat)
  case atStart => exact ⟨0, Nat.zero_le _, rfl, fun j hj h => absurd h (Nat.not_lt_zero _)⟩
  case round =>
    obtain ⟨k, hk, rfl, hb⟩ := hrel
    have HB := Lib.hid hb
    clear hb
    have k0 : (0 : Int) ≤ (k : Int) := by omega
    by_cases hlt : k < n
    · have k1 : (k : Int) < (n : Int) := by omega
      have hkl : k < M.l.length := by rw [HN.out]; exact hlt
      obtain ⟨rfl, rfl⟩ | rfl := HA.out
      · exact absurd hc (by omega)
      · obtain ⟨f1, -, -, -⟩ := HR.out.row.2 k hkl
        obtain ⟨nm, hnm⟩ : ∃ nm, M.l[k].name = nm := ⟨_, rfl⟩
        rw [hnm] at f1
        have HNM := Lib.hid hnm
        clear hnm
        cases e : (nm == s.toList)
        · have e' : nm ≠ s.data.toList := by rw [← ByteArray.toList_eq]; exact beq_eq_false_iff_ne.1 e
          have E' := Lib.hid e'
          clear e'
          go_wp2_with fail
          go_round
          case rel => exact ⟨k + 1, hlt, by go_num, fun j hj hjk => by
            by_cases x : j = k
            · subst x; rw [HNM.out]; exact E'.out
            · exact HB.out j hj (by omega)⟩
          case measure => simp [intOf]; omega
        · have e' : nm = s.data.toList := by rw [← ByteArray.toList_eq]; exact beq_iff_eq.1 e
          have hp := find_place M.l s.data.toList k hkl HB.out (by rw [HNM.out]; exact e')
          have HP := Lib.hid hp
          clear e' hp
          go_wp2_with fail
          go_ret
          refine ⟨?_, rfl⟩
          rw [place, HP.out, if_pos hkl]
          rfl
    · have k1 : (n : Int) ≤ (k : Int) := by omega
      have hno : ¬ (M.l.findIdx fun f => f.name == s.data.toList) < M.l.length := by
        intro hlt2
        have h1 := List.findIdx_getElem (w := hlt2)
        exact HB.out _ hlt2 (by have := HN.out; omega) (by simpa using h1)
      have HNO := Lib.hid hno
      clear hno
      go_wp2_with fail
      go_ret
      refine ⟨?_, rfl⟩
      rw [place, if_neg HNO.out]
      rfl
theorem used_snoc {l : List DiskM.F} {k : Nat} (h : k < l.length) : DiskM.used (l.take (k + 1)) = DiskM.used (l.take k) + l[k].b.length := by
  unfold DiskM.used
  rw [List.take_add_one, List.getElem?_eq_getElem h, Option.toList_some, List.map_append, List.sum_append, List.map_cons, List.map_nil, List.sum_cons, List.sum_nil, Nat.add_zero]
theorem used_le (l : List DiskM.F) (k : Nat) : DiskM.used (l.take k) ≤ DiskM.used l := by
  conv => rhs; rw [← List.take_append_drop k l]
  unfold DiskM.used
  rw [List.map_append, List.sum_append]
  omega
set_option maxHeartbeats 2000000 in
theorem used_any (w : World) (g h : Nat) (M : DiskM.D) (R : RD w g h M) :
    Calls Try.prog 27 #[.pointer (some ⟨g, 0, none⟩)] w fun e w' => e = .returned (.int .i64 (DiskM.used M.l : Int)) ∧ w = w' := by
  obtain ⟨A, c, c0, hc, hA⟩ := R.l
  have HR := Lib.hid R
  have hf := R.few
  have HA := Lib.hid hA
  clear R hA
  obtain ⟨n, hn⟩ : ∃ n, M.l.length = n := ⟨_, rfl⟩
  have HN := Lib.hid hn
  rw [hn] at c0 hc hf
  have n9 : (n : Int) ≤ 1000 := by omega
  have nc : (n : Int) ≤ (c : Int) := by omega
  clear hn
  go_enter Try.func27, Try.ntmps27
  go_wp2_with fail
  go_loop [3, 4] (fun u i => ∃ k z : Nat, k ≤ n ∧ z = DiskM.used (M.l.take k) ∧ i = .int .i64 k ∧ u = .int .i64 z) (fun _ i => n - (intOf i).toNat)
  case atStart => exact ⟨0, 0, Nat.zero_le _, rfl, rfl, rfl⟩
  case round =>
    obtain ⟨k, z, hk, hz, rfl, rfl⟩ := hrel
    have HZ := Lib.hid hz
    have hz9 : z ≤ 16777216 := by rw [hz]; exact Nat.le_trans (used_le _ _) HR.out.small
    clear hz
    have k0 : (0 : Int) ≤ (k : Int) := by omega
    by_cases hlt : k < n
    · have k1 : (k : Int) < (n : Int) := by omega
      have hkl : k < M.l.length := by rw [HN.out]; exact hlt
      obtain ⟨rfl, rfl⟩ | rfl := HA.out
      · exact absurd hc (by omega)
      · obtain ⟨-, f1, -, -⟩ := HR.out.row.2 k hkl
        obtain ⟨b, hb⟩ : ∃ b : ByteArray, (⟨M.l[k].b.toArray⟩ : ByteArray) = b := ⟨_, rfl⟩
        rw [hb] at f1
        have hbl : b.size = M.l[k].b.length := by rw [← hb]; rfl
        have hu := used_snoc hkl
        have hle := Nat.le_trans (used_le M.l (k + 1)) HR.out.small
        have HU : Hid (z + b.size = DiskM.used (M.l.take (k + 1))) := by
          show z + b.size = DiskM.used (M.l.take (k + 1))
          rw [hu, hbl, HZ.out]
        have z9 : z + b.size ≤ 16777216 := by rw [HU.out]; exact hle
        have z8 : (z : Int) + (b.size : Int) ≤ 16777216 := by omega
        have z7 : (z : Int) ≤ 16777216 := by omega
        clear hb hbl hu hle
        go_wp2_with fail
        go_round
        case rel => exact ⟨k + 1, z + b.size, hlt, HU.out, by go_num, by go_num⟩
        case measure => simp [intOf]; omega
    · have k1 : (n : Int) ≤ (k : Int) := by omega
      have HE : Hid (z = DiskM.used M.l) := by
        show z = DiskM.used M.l
        rw [HZ.out, List.take_of_length_le (by rw [HN.out]; omega)]
      go_wp2_with fail
      go_ret
      exact ⟨by rw [← HE.out]; rfl, rfl⟩
theorem rnamed_any (s : ByteArray) (w : World) :
    Calls Try.prog 37 #[.string s] w fun e w' => e = .returned (.bool (DiskM.named s.data.toList)) ∧ w = w' := by
  have hsl : s.data.toList.length = s.size := by simp
  obtain ⟨b, hb⟩ : ∃ b, DiskM.named s.data.toList = b := ⟨_, rfl⟩
  rw [hb]
  unfold DiskM.named at hb
  rw [hsl] at hb
  by_cases h1 : 1 ≤ s.size
  · by_cases h2 : s.size ≤ 64
    · obtain rfl : b = true := by rw [← hb]; simp [h1, h2]
      have z1 : (1 : Int) ≤ (s.size : Int) := by omega
      have z2 : (s.size : Int) ≤ 64 := by omega
      clear hb hsl
      go_enter Try.func37, Try.ntmps37
      go_wp2_with fail
      go_ret
      exact ⟨rfl, rfl⟩
    · obtain rfl : b = false := by rw [← hb]; simp [h1, h2]
      have z1 : (1 : Int) ≤ (s.size : Int) := by omega
      have z2 : 64 < (s.size : Int) := by omega
      have z3 : decide ((s.size : Int) ≤ 64) = false := by simp; omega
      clear hb hsl
      go_enter Try.func37, Try.ntmps37
      go_wp2_with fail
      go_ret
      exact ⟨rfl, rfl⟩
  · obtain rfl : b = false := by rw [← hb]; simp [h1]
    have z1 : (s.size : Int) < 1 := by omega
    clear hb hsl
    go_enter Try.func37, Try.ntmps37
    go_wp2_with fail
    go_ret
    exact ⟨rfl, rfl⟩
/-- A file that there must be: its place and 0, or 0 and why there is none. -/
def haveAt (M : DiskM.D) (s : List UInt8) : Int × Int := if M.down then (0, 23) else if place M.l s < 0 then (0, 25) else (place M.l s, 0)
set_option maxHeartbeats 2000000 in
theorem have_any (w : World) (g h : Nat) (M : DiskM.D) (R : RD w g h M) (s : ByteArray) :
    Calls Try.prog 39 #[.pointer (some ⟨g, 0, none⟩), .string s] w fun e w' => e = .returned (.tuple #[.int .i64 (haveAt M s.data.toList).1, .int .i64 (haveAt M s.data.toList).2]) ∧ w = w' := by
  have HR := Lib.hid R
  have c2 := R.down
  clear R
  obtain ⟨k, hk⟩ : ∃ k, place M.l s.data.toList = k := ⟨_, rfl⟩
  have HK := Lib.hid hk
  obtain ⟨z, hz⟩ : ∃ z, haveAt M s.data.toList = z := ⟨_, rfl⟩
  rw [hz]
  unfold haveAt at hz
  rw [hk] at hz
  cases hd : M.down
  · rw [hd] at c2 hz
    rw [if_neg (by decide)] at hz
    by_cases hk0 : k < 0
    · rw [if_pos hk0] at hz
      subst hz
      clear hk hd
      go_enter Try.func39, Try.ntmps39
      go_wp2_with fail
      go_at_call 46
      refine (find_any w g h M HR.out s).mono ?_
      rintro e w' ⟨rfl, rfl⟩
      rw [HK.out]
      go_wp2_with fail
      go_ret2
      exact ⟨rfl, rfl⟩
    · rw [if_neg hk0] at hz
      subst hz
      have k0 : 0 ≤ k := by omega
      clear hk hd
      go_enter Try.func39, Try.ntmps39
      go_wp2_with fail
      go_at_call 46
      refine (find_any w g h M HR.out s).mono ?_
      rintro e w' ⟨rfl, rfl⟩
      rw [HK.out]
      go_wp2_with fail
      go_ret2
      exact ⟨rfl, rfl⟩
  · rw [hd] at c2 hz
    rw [if_pos rfl] at hz
    subst hz
    clear hk hd
    go_enter Try.func39, Try.ntmps39
    go_wp2_with fail
    go_ret2
    exact ⟨rfl, rfl⟩
theorem find_idx {α : Type} (l : List α) (p : α → Bool) : l.find? p = l[l.findIdx p]? := by
  induction l with
  | nil => rfl
  | cons x l ih =>
    rw [List.find?_cons, List.findIdx_cons]
    cases h : p x
    · simp [ih]
    · simp
theorem place_no {l : List DiskM.F} {s : List UInt8} (h : place l s < 0) : DiskM.find l s = none := by
  unfold place at h
  split at h
  · omega
  · rename_i k
    unfold DiskM.find
    rw [find_idx]
    exact List.getElem?_eq_none (by omega)
theorem place_yes {l : List DiskM.F} {s : List UInt8} (h : ¬ place l s < 0) : ∃ (k : Nat) (hk : k < l.length), place l s = (k : Int) ∧ DiskM.find l s = some l[k] ∧ l[k].name = s := by
  unfold place at h ⊢
  split at h
  · rename_i k
    refine ⟨_, k, if_pos k, ?_, ?_⟩
    · unfold DiskM.find
      rw [find_idx]
      exact List.getElem?_eq_getElem k
    · have := List.findIdx_getElem (w := k)
      simpa using this
  · omega
theorem Files.far {w : World} {h : Nat} {l : List DiskM.F} (F : Files w h l) {p : Addr} (hp : p.block ≠ h) (u : Value) : Files (w.setCell p u) h l := by
  refine ⟨fun k => by rw [World.size_setCell]; exact F.1 k, fun i k => ?_⟩
  obtain ⟨a, b, c, d⟩ := F.2 i k
  refine ⟨?_, ?_, ?_, fun j => by rw [World.frozen?_setCell]; exact d j⟩
  · rw [World.cell?_setCell_other _ _ _ _ (fun e => hp (by rw [e]))]; exact a
  · rw [World.cell?_setCell_other _ _ _ _ (fun e => hp (by rw [e]))]; exact b
  · rw [World.cell?_setCell_other _ _ _ _ (fun e => hp (by rw [e]))]; exact c
theorem RD.max_put {w : World} {g h : Nat} {M : DiskM.D} (R : RD w g h M) (x : Nat) : RD (w.setCell ⟨g, 1, none⟩ (.int .i64 (x : Int))) g h { M with max := x } := by
  obtain ⟨A, c, c0, hc, hA⟩ := R.l
  refine ⟨R.ne, R.row.far R.ne _, by rw [World.size_setCell]; exact R.lt, ⟨A, c, ?_, hc, hA⟩, ?_, ?_, fun i => by rw [World.frozen?_setCell]; exact R.free i, R.few, R.small, fun k => by rw [World.cell?_setCell_other _ _ _ _ (fun e => by injection e; omega)]; exact R.real (by rw [World.size_setCell] at k; exact k)⟩
  · rw [World.cell?_setCell_other _ _ _ _ (fun e => by injection e; omega)]; exact c0
  · exact World.cell?_setCell_same _ _ _ R.max
  · rw [World.cell?_setCell_other _ _ _ _ (fun e => by injection e; omega)]; exact R.down
theorem RD.down_put {w : World} {g h : Nat} {M : DiskM.D} (R : RD w g h M) (b : Bool) : RD (w.setCell ⟨g, 2, none⟩ (.bool b)) g h { M with down := b } := by
  obtain ⟨A, c, c0, hc, hA⟩ := R.l
  refine ⟨R.ne, R.row.far R.ne _, by rw [World.size_setCell]; exact R.lt, ⟨A, c, ?_, hc, hA⟩, ?_, ?_, fun i => by rw [World.frozen?_setCell]; exact R.free i, R.few, R.small, fun k => by rw [World.cell?_setCell_other _ _ _ _ (fun e => by injection e; omega)]; exact R.real (by rw [World.size_setCell] at k; exact k)⟩
  · rw [World.cell?_setCell_other _ _ _ _ (fun e => by injection e; omega)]; exact c0
  · rw [World.cell?_setCell_other _ _ _ _ (fun e => by injection e; omega)]; exact R.max
  · exact World.cell?_setCell_same _ _ _ R.down
set_option maxHeartbeats 2000000 in
theorem read_any (w : World) (g h : Nat) (M : DiskM.D) (R : RD w g h M) (s : ByteArray) :
    Calls Try.prog 28 #[.pointer (some ⟨g, 0, none⟩), .string s] w fun e w' => e = .returned (.tuple #[.string ⟨(DiskM.read M s.data.toList).1.toArray⟩, .int .i64 (DiskM.read M s.data.toList).2]) ∧ w = w' := by
  obtain ⟨A, c, c0, hc, hA⟩ := R.l
  have HR := Lib.hid R
  have hf := R.few
  have HA := Lib.hid hA
  clear R hA
  obtain ⟨n, hn⟩ : ∃ n, M.l.length = n := ⟨_, rfl⟩
  have HN := Lib.hid hn
  rw [hn] at c0 hc hf
  have nc : (n : Int) ≤ (c : Int) := by omega
  clear hn
  obtain ⟨z, hz⟩ : ∃ z, DiskM.read M s.data.toList = z := ⟨_, rfl⟩
  rw [hz]
  unfold DiskM.read DiskM.have_ at hz
  obtain ⟨v, hv⟩ : ∃ v, haveAt M s.data.toList = v := ⟨_, rfl⟩
  have HV := Lib.hid hv
  unfold haveAt at hv
  cases hd : M.down
  · rw [hd, if_neg (by decide)] at hz hv
    by_cases hk0 : place M.l s.data.toList < 0
    · rw [place_no hk0] at hz
      rw [if_pos hk0] at hv
      subst hv
      simp only at hz
      subst hz
      clear hd
      go_enter Try.func28, Try.ntmps28
      go_wp2_with fail
      go_at_call 39
      refine (have_any w g h M HR.out s).mono ?_
      rintro e w' ⟨rfl, rfl⟩
      rw [HV.out]
      go_wp2_with fail
      go_ret2
      exact ⟨rfl, rfl⟩
    · obtain ⟨k, hk, hp, hfd, hnm⟩ := place_yes hk0
      rw [hfd] at hz
      rw [if_neg hk0, hp] at hv
      subst hv
      simp only at hz
      subst hz
      have hkn : k < n := by rw [← HN.out]; exact hk
      have k0 : (0 : Int) ≤ (k : Int) := by omega
      have k1 : (k : Int) < (n : Int) := by omega
      obtain ⟨-, f1, -, -⟩ := HR.out.row.2 k hk
      clear hd hfd hnm hp hk0
      obtain ⟨rfl, rfl⟩ | rfl := HA.out
      · exact absurd hc (by omega)
      · go_enter Try.func28, Try.ntmps28
        go_wp2_with fail
        go_at_call 39
        refine (have_any w g h M HR.out s).mono ?_
        rintro e w' ⟨rfl, rfl⟩
        rw [HV.out]
        go_wp2_with fail
        go_ret2
        exact ⟨rfl, rfl⟩
  · rw [hd, if_pos rfl] at hz hv
    subst hv
    simp only at hz
    subst hz
    clear hd
    go_enter Try.func28, Try.ntmps28
    go_wp2_with fail
    go_at_call 39
    refine (have_any w g h M HR.out s).mono ?_
    rintro e w' ⟨rfl, rfl⟩
    rw [HV.out]
    go_wp2_with fail
    go_ret2
    exact ⟨rfl, rfl⟩
end Go.Proofs.Ythclaolmmlgalaa
