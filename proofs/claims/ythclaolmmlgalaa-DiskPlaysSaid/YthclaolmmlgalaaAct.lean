/- One operation done to both disks: their answers are the same. -/
import Derived.Test.YthclaolmmlgalaaDuo
import Derived.Deep.RegionHeld3
namespace Go.Proofs.Ythclaolmmlgalaa
open Go.RowKit
set_option linter.unusedVariables false
namespace DiskM
theorem have_len (M : D) (s : List UInt8) (f : F → D) (h : ∀ x, (f x).l.length ≤ M.l.length + 1) : (match have_ M s with | .error e => ((e : Int), M) | .ok x => (0, f x)).2.l.length ≤ M.l.length + 1 := by
  cases have_ M s with
  | error e => exact Nat.le_succ _
  | ok x => exact h x
theorem out_len (l : List F) (s : List UInt8) : (out l s).length ≤ l.length := List.length_filter_le _ _
theorem sync_len (M : D) (s : List UInt8) : (sync M s).2.l.length ≤ M.l.length + 1 := by
  unfold sync
  cases have_ M s with
  | error e => exact Nat.le_succ _
  | ok x => exact put_len _ _
theorem cut_len (M : D) (s : List UInt8) (n : Int) : (cut M s n).2.l.length ≤ M.l.length + 1 := by
  unfold cut
  cases have_ M s with
  | error e => exact Nat.le_succ _
  | ok x =>
    dsimp only
    split
    · exact Nat.le_succ _
    · exact put_len _ _
theorem rename_len (M : D) (s t : List UInt8) : (rename M s t).2.l.length ≤ M.l.length + 1 := by
  unfold rename
  cases have_ M s with
  | error e => exact Nat.le_succ _
  | ok x =>
    dsimp only
    split
    · exact Nat.le_succ _
    · split
      · exact Nat.le_succ _
      · exact Nat.le_trans (put_len _ _) (Nat.succ_le_succ (out_len _ _))
theorem delete_len (M : D) (s : List UInt8) : (delete M s).2.l.length ≤ M.l.length + 1 := by
  unfold delete
  cases have_ M s with
  | error e => exact Nat.le_succ _
  | ok x => exact Nat.le_trans (out_len _ _) (Nat.le_succ _)
theorem crash_len (M : D) (n : Int) (g : Bool) : (crash M n g).l.length ≤ M.l.length + 1 := by
  unfold crash
  split
  · exact Nat.le_succ _
  · rw [List.length_map]; exact Nat.le_succ _
theorem start_len (M : D) : (start M).2.l.length ≤ M.l.length + 1 := by
  unfold start
  split <;> exact Nat.le_succ _
theorem mem_used : ∀ {l : List F} {x : F}, x ∈ l → x.b.length ≤ used l
  | g :: r, x, h => by
    rw [used_cons]
    rcases List.mem_cons.1 h with rfl | k
    · omega
    · have := mem_used k; omega
end DiskM
theorem Only.two {K : Nat → Prop} {w w1 w2 w3 : World} {b : Nat} (ha : Below w.heap.size w w1) (h1 : Only (fun k => ¬ (K k ∨ k = b)) w1 w2) (h2 : Only (fun k => ¬ (K k ∨ k = b)) w2 w3) : Only (fun k => ¬ K k) w w3 := by
  have k1 : Only (fun k => ¬ K k) w1 w2 := h1.wider fun k hk x => hk (.inl x)
  have k2 : Only (fun k => ¬ K k) w2 w3 := h2.wider fun k hk x => hk (.inl x)
  exact ((Only.of_below ha).trans k1 fun n x => .inl x).trans k2 fun n x => .inl x
theorem Only.cell_in {K : Nat → Prop} {w w' : World} {q : Addr} {v : Value} (h : Only (fun k => ¬ K k) w w') (hq : K q.block) (hc : w.cell? q = some v) : w'.cell? q = some v :=
  (World.cell?_of_block (h.block _ (World.block_lt_of_cell? w q hc) fun x => x hq)).trans hc
set_option maxRecDepth 20000 in
set_option maxHeartbeats 4000000 in
theorem act_sync (K : Nat → Prop) (w : World) (p : Addr) (g : Nat) (M : DiskM.D) (D : Duo K w p g M M) (k n : Int) (nm to bb : ByteArray) (gb : Bool) (hk : (wrap64 (k.tmod 10 + 10)).tmod 10 = 3) (hn : nm.size ≤ maxLen) :
    Calls Try.prog 6 #[.pointer (some p), .pointer (some ⟨g, 0, none⟩), .agg #[.int .i64 k, .int .i64 n, .string nm, .string to, .string bb, .bool gb]] w fun e w' => ∃ M', e = .returned (.bool true) ∧ Duo K w' p g M' M' ∧ Only (fun k => ¬ K k) w w' ∧ M'.l.length ≤ M.l.length + 1 := by
  obtain ⟨hri, hfew, hok, hsm, hro⟩ := D.facts
  obtain ⟨x, hx⟩ : ∃ x, DiskM.sync M nm.data.toList = x := ⟨_, rfl⟩
  obtain ⟨r, N⟩ := x
  have hb : Below w.heap.size w (w.alloc (.cells #[.int .i64 k, .int .i64 n, .string nm, .string to, .string bb, .bool gb] 32)) := (Below.refl _ w).alloc (Nat.le_refl _) _
  have HD1 := Lib.hid (D.with_ hb w.heap.size (Nat.le_refl _) (by simp)).drew
  have HB1 := Lib.hid hb.drew
  have DS : Hid (∀ W, Duo (fun k => K k ∨ k = w.heap.size) W p g M M → Calls Try.prog 9 #[.pointer (some p), .string nm] W fun e w' => e = .returned (.int .i64 r) ∧ Duo (fun k => K k ∨ k = w.heap.size) w' p g N M ∧ Only (fun k => ¬ (K k ∨ k = w.heap.size)) W w') := fun W h => by
    have q := h.d_step fun F hd => disk_ok.sync hd nm hn
    rw [hx] at q
    exact q
  have XS : Hid (∀ W, Duo (fun k => K k ∨ k = w.heap.size) W p g N M → Calls Try.prog 14 #[.pointer (some ⟨g, 0, none⟩), .string nm] W fun e w' => e = .returned (.int .i64 r) ∧ Duo (fun k => K k ∨ k = w.heap.size) w' p g N N ∧ Only (fun k => ¬ (K k ∨ k = w.heap.size)) W w') := fun W h => by
    have q := h.x_step fun h' hd => rsync_any W g h' M hd nm hri
    rw [hx] at q
    exact q
  have HL : Hid (N.l.length ≤ M.l.length + 1) := by
    have q := DiskM.sync_len M nm.data.toList
    rw [hx] at q
    exact q
  have HK : Hid (∀ W W', Only (fun k => ¬ (K k ∨ k = w.heap.size)) W W' → (W.cell? ⟨w.heap.size, 2, none⟩ = some (.string nm)) → (W'.cell? ⟨w.heap.size, 2, none⟩ = some (.string nm))) := fun W W' ho hc => ho.cell_in (.inr rfl) hc
  have hbx : ∀ i, (w.alloc (.cells #[.int .i64 k, .int .i64 n, .string nm, .string to, .string bb, .bool gb] 32)).drew.cell? ⟨w.heap.size, i, none⟩ = (#[.int .i64 k, .int .i64 n, .string nm, .string to, .string bb, .bool gb] : Array Value)[i]? := fun i => by
    show (w.alloc (.cells #[.int .i64 k, .int .i64 n, .string nm, .string to, .string bb, .bool gb] 32)).cell? ⟨w.heap.size, i, none⟩ = _
    rw [World.cell?_alloc_mark]
  have HS0 : Hid ((w.alloc (.cells #[.int .i64 k, .int .i64 n, .string nm, .string to, .string bb, .bool gb] 32)).drew.cell? ⟨w.heap.size, 2, none⟩ = some (.string nm)) := hbx 2
  clear D hri hfew hok hsm hro hx hb hbx
  go_enter Try.func6, Try.ntmps6
  go_wp2_with fail
  go_region_held3 (fun W => W.cell? ⟨w.heap.size, 2, none⟩ = some (.string nm)) (first | exact HS0.out | exact HK.out _ _ (by assumption) (by assumption) | assumption) (first
    | (go_at_call 9; with_reducible refine (DS.out _ (by first | exact HD1.out | assumption)).mono ?_; rintro e w' ⟨rfl, hd, ho⟩)
    | (go_at_call 14; with_reducible refine (XS.out _ (by assumption)).mono ?_; rintro e w' ⟨rfl, hd, ho⟩))
  all_goals
    go_wp2_with fail
    go_ret
    exact ⟨N, by first | rfl | simp, Duo.less (K := fun k => K k ∨ k = w.heap.size) (by assumption) (fun k hk => Or.inl hk), Only.two HB1.out (by assumption) (by assumption), HL.out⟩
set_option maxRecDepth 20000 in
set_option maxHeartbeats 4000000 in
theorem act_cut (K : Nat → Prop) (w : World) (p : Addr) (g : Nat) (M : DiskM.D) (D : Duo K w p g M M) (k n : Int) (nm to bb : ByteArray) (gb : Bool) (hk : (wrap64 (k.tmod 10 + 10)).tmod 10 = 4) (hn : nm.size ≤ maxLen) (hw : (Lit.int .i64 n).wf = true) :
    Calls Try.prog 6 #[.pointer (some p), .pointer (some ⟨g, 0, none⟩), .agg #[.int .i64 k, .int .i64 n, .string nm, .string to, .string bb, .bool gb]] w fun e w' => ∃ M', e = .returned (.bool true) ∧ Duo K w' p g M' M' ∧ Only (fun k => ¬ K k) w w' ∧ M'.l.length ≤ M.l.length + 1 := by
  obtain ⟨hri, hfew, hok, hsm, hro⟩ := D.facts
  obtain ⟨x, hx⟩ : ∃ x, DiskM.cut M nm.data.toList n = x := ⟨_, rfl⟩
  obtain ⟨r, N⟩ := x
  have hb : Below w.heap.size w (w.alloc (.cells #[.int .i64 k, .int .i64 n, .string nm, .string to, .string bb, .bool gb] 32)) := (Below.refl _ w).alloc (Nat.le_refl _) _
  have HD1 := Lib.hid (D.with_ hb w.heap.size (Nat.le_refl _) (by simp)).drew
  have HB1 := Lib.hid hb.drew
  have DS : Hid (∀ W, Duo (fun k => K k ∨ k = w.heap.size) W p g M M → Calls Try.prog 15 #[.pointer (some p), .string nm, .int .i64 n] W fun e w' => e = .returned (.int .i64 r) ∧ Duo (fun k => K k ∨ k = w.heap.size) w' p g N M ∧ Only (fun k => ¬ (K k ∨ k = w.heap.size)) W w') := fun W h => by
    have q := h.d_step fun F hd => disk_ok.cut hd nm n hn hw
    rw [hx] at q
    exact q
  have XS : Hid (∀ W, Duo (fun k => K k ∨ k = w.heap.size) W p g N M → Calls Try.prog 16 #[.pointer (some ⟨g, 0, none⟩), .string nm, .int .i64 n] W fun e w' => e = .returned (.int .i64 r) ∧ Duo (fun k => K k ∨ k = w.heap.size) w' p g N N ∧ Only (fun k => ¬ (K k ∨ k = w.heap.size)) W w') := fun W h => by
    have q := h.x_step fun h' hd => rcut_any W g h' M hd nm n hri (fun x hx => Nat.le_trans (DiskM.mem_used (DiskM.find_mem hx)) hsm)
    rw [hx] at q
    exact q
  have HL : Hid (N.l.length ≤ M.l.length + 1) := by
    have q := DiskM.cut_len M nm.data.toList n
    rw [hx] at q
    exact q
  have HK : Hid (∀ W W', Only (fun k => ¬ (K k ∨ k = w.heap.size)) W W' → (W.cell? ⟨w.heap.size, 1, none⟩ = some (.int .i64 n) ∧ W.cell? ⟨w.heap.size, 2, none⟩ = some (.string nm)) → (W'.cell? ⟨w.heap.size, 1, none⟩ = some (.int .i64 n) ∧ W'.cell? ⟨w.heap.size, 2, none⟩ = some (.string nm))) := fun W W' ho hc => ⟨ho.cell_in (.inr rfl) hc.1, ho.cell_in (.inr rfl) hc.2⟩
  have hbx : ∀ i, (w.alloc (.cells #[.int .i64 k, .int .i64 n, .string nm, .string to, .string bb, .bool gb] 32)).drew.cell? ⟨w.heap.size, i, none⟩ = (#[.int .i64 k, .int .i64 n, .string nm, .string to, .string bb, .bool gb] : Array Value)[i]? := fun i => by
    show (w.alloc (.cells #[.int .i64 k, .int .i64 n, .string nm, .string to, .string bb, .bool gb] 32)).cell? ⟨w.heap.size, i, none⟩ = _
    rw [World.cell?_alloc_mark]
  have HS0 : Hid ((w.alloc (.cells #[.int .i64 k, .int .i64 n, .string nm, .string to, .string bb, .bool gb] 32)).drew.cell? ⟨w.heap.size, 1, none⟩ = some (.int .i64 n) ∧ (w.alloc (.cells #[.int .i64 k, .int .i64 n, .string nm, .string to, .string bb, .bool gb] 32)).drew.cell? ⟨w.heap.size, 2, none⟩ = some (.string nm)) := ⟨hbx 1, hbx 2⟩
  clear D hri hfew hok hsm hro hx hb hbx
  go_enter Try.func6, Try.ntmps6
  go_wp2_with fail
  go_region_held3 (fun W => W.cell? ⟨w.heap.size, 1, none⟩ = some (.int .i64 n) ∧ W.cell? ⟨w.heap.size, 2, none⟩ = some (.string nm)) (first | exact HS0.out | exact HK.out _ _ (by assumption) (by assumption) | assumption) (first
    | (go_at_call 15; with_reducible refine (DS.out _ (by first | exact HD1.out | assumption)).mono ?_; rintro e w' ⟨rfl, hd, ho⟩)
    | (go_at_call 16; with_reducible refine (XS.out _ (by assumption)).mono ?_; rintro e w' ⟨rfl, hd, ho⟩))
  all_goals
    go_wp2_with fail
    go_ret
    exact ⟨N, by first | rfl | simp, Duo.less (K := fun k => K k ∨ k = w.heap.size) (by assumption) (fun k hk => Or.inl hk), Only.two HB1.out (by assumption) (by assumption), HL.out⟩
set_option maxRecDepth 20000 in
set_option maxHeartbeats 4000000 in
theorem act_rename (K : Nat → Prop) (w : World) (p : Addr) (g : Nat) (M : DiskM.D) (D : Duo K w p g M M) (k n : Int) (nm to bb : ByteArray) (gb : Bool) (hk : (wrap64 (k.tmod 10 + 10)).tmod 10 = 5) (hn : nm.size ≤ maxLen) (ht : to.size ≤ maxLen) :
    Calls Try.prog 6 #[.pointer (some p), .pointer (some ⟨g, 0, none⟩), .agg #[.int .i64 k, .int .i64 n, .string nm, .string to, .string bb, .bool gb]] w fun e w' => ∃ M', e = .returned (.bool true) ∧ Duo K w' p g M' M' ∧ Only (fun k => ¬ K k) w w' ∧ M'.l.length ≤ M.l.length + 1 := by
  obtain ⟨hri, hfew, hok, hsm, hro⟩ := D.facts
  obtain ⟨x, hx⟩ : ∃ x, DiskM.rename M nm.data.toList to.data.toList = x := ⟨_, rfl⟩
  obtain ⟨r, N⟩ := x
  have hb : Below w.heap.size w (w.alloc (.cells #[.int .i64 k, .int .i64 n, .string nm, .string to, .string bb, .bool gb] 32)) := (Below.refl _ w).alloc (Nat.le_refl _) _
  have HD1 := Lib.hid (D.with_ hb w.heap.size (Nat.le_refl _) (by simp)).drew
  have HB1 := Lib.hid hb.drew
  have DS : Hid (∀ W, Duo (fun k => K k ∨ k = w.heap.size) W p g M M → Calls Try.prog 17 #[.pointer (some p), .string nm, .string to] W fun e w' => e = .returned (.int .i64 r) ∧ Duo (fun k => K k ∨ k = w.heap.size) w' p g N M ∧ Only (fun k => ¬ (K k ∨ k = w.heap.size)) W w') := fun W h => by
    have q := h.d_step fun F hd => disk_ok.rename hd nm to hn ht
    rw [hx] at q
    exact q
  have XS : Hid (∀ W, Duo (fun k => K k ∨ k = w.heap.size) W p g N M → Calls Try.prog 18 #[.pointer (some ⟨g, 0, none⟩), .string nm, .string to] W fun e w' => e = .returned (.int .i64 r) ∧ Duo (fun k => K k ∨ k = w.heap.size) w' p g N N ∧ Only (fun k => ¬ (K k ∨ k = w.heap.size)) W w') := fun W h => by
    have q := h.x_step fun h' hd => rrename_any W g h' M hd nm to hri
    rw [hx] at q
    exact q
  have HL : Hid (N.l.length ≤ M.l.length + 1) := by
    have q := DiskM.rename_len M nm.data.toList to.data.toList
    rw [hx] at q
    exact q
  have HK : Hid (∀ W W', Only (fun k => ¬ (K k ∨ k = w.heap.size)) W W' → (W.cell? ⟨w.heap.size, 2, none⟩ = some (.string nm) ∧ W.cell? ⟨w.heap.size, 3, none⟩ = some (.string to)) → (W'.cell? ⟨w.heap.size, 2, none⟩ = some (.string nm) ∧ W'.cell? ⟨w.heap.size, 3, none⟩ = some (.string to))) := fun W W' ho hc => ⟨ho.cell_in (.inr rfl) hc.1, ho.cell_in (.inr rfl) hc.2⟩
  have hbx : ∀ i, (w.alloc (.cells #[.int .i64 k, .int .i64 n, .string nm, .string to, .string bb, .bool gb] 32)).drew.cell? ⟨w.heap.size, i, none⟩ = (#[.int .i64 k, .int .i64 n, .string nm, .string to, .string bb, .bool gb] : Array Value)[i]? := fun i => by
    show (w.alloc (.cells #[.int .i64 k, .int .i64 n, .string nm, .string to, .string bb, .bool gb] 32)).cell? ⟨w.heap.size, i, none⟩ = _
    rw [World.cell?_alloc_mark]
  have HS0 : Hid ((w.alloc (.cells #[.int .i64 k, .int .i64 n, .string nm, .string to, .string bb, .bool gb] 32)).drew.cell? ⟨w.heap.size, 2, none⟩ = some (.string nm) ∧ (w.alloc (.cells #[.int .i64 k, .int .i64 n, .string nm, .string to, .string bb, .bool gb] 32)).drew.cell? ⟨w.heap.size, 3, none⟩ = some (.string to)) := ⟨hbx 2, hbx 3⟩
  clear D hri hfew hok hsm hro hx hb hbx
  go_enter Try.func6, Try.ntmps6
  go_wp2_with fail
  go_region_held3 (fun W => W.cell? ⟨w.heap.size, 2, none⟩ = some (.string nm) ∧ W.cell? ⟨w.heap.size, 3, none⟩ = some (.string to)) (first | exact HS0.out | exact HK.out _ _ (by assumption) (by assumption) | assumption) (first
    | (go_at_call 17; with_reducible refine (DS.out _ (by first | exact HD1.out | assumption)).mono ?_; rintro e w' ⟨rfl, hd, ho⟩)
    | (go_at_call 18; with_reducible refine (XS.out _ (by assumption)).mono ?_; rintro e w' ⟨rfl, hd, ho⟩))
  all_goals
    go_wp2_with fail
    go_ret
    exact ⟨N, by first | rfl | simp, Duo.less (K := fun k => K k ∨ k = w.heap.size) (by assumption) (fun k hk => Or.inl hk), Only.two HB1.out (by assumption) (by assumption), HL.out⟩
set_option maxRecDepth 20000 in
set_option maxHeartbeats 4000000 in
theorem act_delete (K : Nat → Prop) (w : World) (p : Addr) (g : Nat) (M : DiskM.D) (D : Duo K w p g M M) (k n : Int) (nm to bb : ByteArray) (gb : Bool) (hk : (wrap64 (k.tmod 10 + 10)).tmod 10 = 6) (hn : nm.size ≤ maxLen) :
    Calls Try.prog 6 #[.pointer (some p), .pointer (some ⟨g, 0, none⟩), .agg #[.int .i64 k, .int .i64 n, .string nm, .string to, .string bb, .bool gb]] w fun e w' => ∃ M', e = .returned (.bool true) ∧ Duo K w' p g M' M' ∧ Only (fun k => ¬ K k) w w' ∧ M'.l.length ≤ M.l.length + 1 := by
  obtain ⟨hri, hfew, hok, hsm, hro⟩ := D.facts
  obtain ⟨x, hx⟩ : ∃ x, DiskM.delete M nm.data.toList = x := ⟨_, rfl⟩
  obtain ⟨r, N⟩ := x
  have hb : Below w.heap.size w (w.alloc (.cells #[.int .i64 k, .int .i64 n, .string nm, .string to, .string bb, .bool gb] 32)) := (Below.refl _ w).alloc (Nat.le_refl _) _
  have HD1 := Lib.hid (D.with_ hb w.heap.size (Nat.le_refl _) (by simp)).drew
  have HB1 := Lib.hid hb.drew
  have DS : Hid (∀ W, Duo (fun k => K k ∨ k = w.heap.size) W p g M M → Calls Try.prog 19 #[.pointer (some p), .string nm] W fun e w' => e = .returned (.int .i64 r) ∧ Duo (fun k => K k ∨ k = w.heap.size) w' p g N M ∧ Only (fun k => ¬ (K k ∨ k = w.heap.size)) W w') := fun W h => by
    have q := h.d_step fun F hd => disk_ok.delete hd nm hn
    rw [hx] at q
    exact q
  have XS : Hid (∀ W, Duo (fun k => K k ∨ k = w.heap.size) W p g N M → Calls Try.prog 20 #[.pointer (some ⟨g, 0, none⟩), .string nm] W fun e w' => e = .returned (.int .i64 r) ∧ Duo (fun k => K k ∨ k = w.heap.size) w' p g N N ∧ Only (fun k => ¬ (K k ∨ k = w.heap.size)) W w') := fun W h => by
    have q := h.x_step fun h' hd => rdelete_any W g h' M hd nm hri
    rw [hx] at q
    exact q
  have HL : Hid (N.l.length ≤ M.l.length + 1) := by
    have q := DiskM.delete_len M nm.data.toList
    rw [hx] at q
    exact q
  have HK : Hid (∀ W W', Only (fun k => ¬ (K k ∨ k = w.heap.size)) W W' → (W.cell? ⟨w.heap.size, 2, none⟩ = some (.string nm)) → (W'.cell? ⟨w.heap.size, 2, none⟩ = some (.string nm))) := fun W W' ho hc => ho.cell_in (.inr rfl) hc
  have hbx : ∀ i, (w.alloc (.cells #[.int .i64 k, .int .i64 n, .string nm, .string to, .string bb, .bool gb] 32)).drew.cell? ⟨w.heap.size, i, none⟩ = (#[.int .i64 k, .int .i64 n, .string nm, .string to, .string bb, .bool gb] : Array Value)[i]? := fun i => by
    show (w.alloc (.cells #[.int .i64 k, .int .i64 n, .string nm, .string to, .string bb, .bool gb] 32)).cell? ⟨w.heap.size, i, none⟩ = _
    rw [World.cell?_alloc_mark]
  have HS0 : Hid ((w.alloc (.cells #[.int .i64 k, .int .i64 n, .string nm, .string to, .string bb, .bool gb] 32)).drew.cell? ⟨w.heap.size, 2, none⟩ = some (.string nm)) := hbx 2
  clear D hri hfew hok hsm hro hx hb hbx
  go_enter Try.func6, Try.ntmps6
  go_wp2_with fail
  go_region_held3 (fun W => W.cell? ⟨w.heap.size, 2, none⟩ = some (.string nm)) (first | exact HS0.out | exact HK.out _ _ (by assumption) (by assumption) | assumption) (first
    | (go_at_call 19; with_reducible refine (DS.out _ (by first | exact HD1.out | assumption)).mono ?_; rintro e w' ⟨rfl, hd, ho⟩)
    | (go_at_call 20; with_reducible refine (XS.out _ (by assumption)).mono ?_; rintro e w' ⟨rfl, hd, ho⟩))
  all_goals
    go_wp2_with fail
    go_ret
    exact ⟨N, by first | rfl | simp, Duo.less (K := fun k => K k ∨ k = w.heap.size) (by assumption) (fun k hk => Or.inl hk), Only.two HB1.out (by assumption) (by assumption), HL.out⟩
set_option maxRecDepth 20000 in
set_option maxHeartbeats 4000000 in
theorem act_room (K : Nat → Prop) (w : World) (p : Addr) (g : Nat) (M : DiskM.D) (D : Duo K w p g M M) (k n : Int) (nm to bb : ByteArray) (gb : Bool) (hk : (wrap64 (k.tmod 10 + 10)).tmod 10 = 7) (hw : (Lit.int .i64 n).wf = true) :
    Calls Try.prog 6 #[.pointer (some p), .pointer (some ⟨g, 0, none⟩), .agg #[.int .i64 k, .int .i64 n, .string nm, .string to, .string bb, .bool gb]] w fun e w' => ∃ M', e = .returned (.bool true) ∧ Duo K w' p g M' M' ∧ Only (fun k => ¬ K k) w w' ∧ M'.l.length ≤ M.l.length + 1 := by
  obtain ⟨hri, hfew, hok, hsm, hro⟩ := D.facts
  obtain ⟨x, hx⟩ : ∃ x, DiskM.room M n = x := ⟨_, rfl⟩
  obtain ⟨N, hxN⟩ : ∃ N, x = N := ⟨_, rfl⟩
  rw [hxN] at hx
  clear hxN x
  have hb : Below w.heap.size w (w.alloc (.cells #[.int .i64 k, .int .i64 n, .string nm, .string to, .string bb, .bool gb] 32)) := (Below.refl _ w).alloc (Nat.le_refl _) _
  have HD1 := Lib.hid (D.with_ hb w.heap.size (Nat.le_refl _) (by simp))
  have HB1 := Lib.hid hb
  have DS : Hid (∀ W, Duo (fun k => K k ∨ k = w.heap.size) W p g M M → Calls Try.prog 21 #[.pointer (some p), .int .i64 n] W fun e w' => e = .returned (.tuple #[]) ∧ Duo (fun k => K k ∨ k = w.heap.size) w' p g N M ∧ Only (fun k => ¬ (K k ∨ k = w.heap.size)) W w') := fun W h => by
    have q := h.d_step fun F hd => disk_ok.room hd n hw
    rw [hx] at q
    exact q
  have XS : Hid (∀ W, Duo (fun k => K k ∨ k = w.heap.size) W p g N M → Calls Try.prog 22 #[.pointer (some ⟨g, 0, none⟩), .int .i64 n] W fun e w' => e = .returned (.tuple #[]) ∧ Duo (fun k => K k ∨ k = w.heap.size) w' p g N N ∧ Only (fun k => ¬ (K k ∨ k = w.heap.size)) W w') := fun W h => by
    have q := h.x_step fun h' hd => room_any W g h' M hd n
    rw [hx] at q
    exact q
  have HL : Hid (N.l.length ≤ M.l.length + 1) := by
    have q := (show (DiskM.room M n).l.length ≤ M.l.length + 1 from Nat.le_succ _)
    rw [hx] at q
    exact q
  have hbx : ∀ i, (w.alloc (.cells #[.int .i64 k, .int .i64 n, .string nm, .string to, .string bb, .bool gb] 32)).cell? ⟨w.heap.size, i, none⟩ = (#[.int .i64 k, .int .i64 n, .string nm, .string to, .string bb, .bool gb] : Array Value)[i]? := fun i => by rw [World.cell?_alloc_mark]
  have b1 : ∀ W', Only (fun k => ¬ (K k ∨ k = w.heap.size)) (w.alloc (.cells #[.int .i64 k, .int .i64 n, .string nm, .string to, .string bb, .bool gb] 32)) W' → W'.cell? ⟨w.heap.size, 1, none⟩ = some (.int .i64 n) ∧ W'.cell? ⟨w.heap.size, 5, none⟩ = some (.bool gb) := fun W' ho => ⟨ho.cell_in (.inr rfl) (hbx 1), ho.cell_in (.inr rfl) (hbx 5)⟩
  have HBX := Lib.hid b1
  clear D hri hfew hok hsm hro hx hb hbx b1
  go_enter Try.func6, Try.ntmps6
  go_wp2_with fail
  go_at_call 21
  refine (DS.out _ HD1.out).mono ?_
  rintro e w2 ⟨rfl, hd, ho⟩
  obtain ⟨c1, c5⟩ := HBX.out _ ho
  have HD2 := Lib.hid hd
  have HO2 := Lib.hid ho
  clear hd ho
  go_wp2_with fail
  go_at_call 22
  refine (XS.out _ HD2.out).mono ?_
  rintro e w3 ⟨rfl, hd, ho⟩
  have HD3 := Lib.hid hd
  have HO3 := Lib.hid ho
  clear hd ho
  go_wp2_with fail
  go_ret
  exact ⟨N, by first | rfl | simp, Duo.less HD3.out (fun k hk => Or.inl hk), Only.two HB1.out HO2.out HO3.out, HL.out⟩
set_option maxRecDepth 20000 in
set_option maxHeartbeats 4000000 in
theorem act_crash (K : Nat → Prop) (w : World) (p : Addr) (g : Nat) (M : DiskM.D) (D : Duo K w p g M M) (k n : Int) (nm to bb : ByteArray) (gb : Bool) (hk : (wrap64 (k.tmod 10 + 10)).tmod 10 = 8) (hw : (Lit.int .i64 n).wf = true) :
    Calls Try.prog 6 #[.pointer (some p), .pointer (some ⟨g, 0, none⟩), .agg #[.int .i64 k, .int .i64 n, .string nm, .string to, .string bb, .bool gb]] w fun e w' => ∃ M', e = .returned (.bool true) ∧ Duo K w' p g M' M' ∧ Only (fun k => ¬ K k) w w' ∧ M'.l.length ≤ M.l.length + 1 := by
  obtain ⟨hri, hfew, hok, hsm, hro⟩ := D.facts
  obtain ⟨x, hx⟩ : ∃ x, DiskM.crash M n gb = x := ⟨_, rfl⟩
  obtain ⟨N, hxN⟩ : ∃ N, x = N := ⟨_, rfl⟩
  rw [hxN] at hx
  clear hxN x
  have hb : Below w.heap.size w (w.alloc (.cells #[.int .i64 k, .int .i64 n, .string nm, .string to, .string bb, .bool gb] 32)) := (Below.refl _ w).alloc (Nat.le_refl _) _
  have HD1 := Lib.hid (D.with_ hb w.heap.size (Nat.le_refl _) (by simp))
  have HB1 := Lib.hid hb
  have DS : Hid (∀ W, Duo (fun k => K k ∨ k = w.heap.size) W p g M M → Calls Try.prog 10 #[.pointer (some p), .int .i64 n, .bool gb] W fun e w' => e = .returned (.tuple #[]) ∧ Duo (fun k => K k ∨ k = w.heap.size) w' p g N M ∧ Only (fun k => ¬ (K k ∨ k = w.heap.size)) W w') := fun W h => by
    have q := h.d_step fun F hd => disk_ok.crash hd n gb hw
    rw [hx] at q
    exact q
  have XS : Hid (∀ W, Duo (fun k => K k ∨ k = w.heap.size) W p g N M → Calls Try.prog 23 #[.pointer (some ⟨g, 0, none⟩), .int .i64 n, .bool gb] W fun e w' => e = .returned (.tuple #[]) ∧ Duo (fun k => K k ∨ k = w.heap.size) w' p g N N ∧ Only (fun k => ¬ (K k ∨ k = w.heap.size)) W w') := fun W h => by
    have q := h.x_step fun h' hd => rcrash_any W g h' M hd n gb (fun x hx => ⟨(hok x hx).2, Nat.le_trans (DiskM.mem_used hx) hsm⟩)
    rw [hx] at q
    exact q
  have HL : Hid (N.l.length ≤ M.l.length + 1) := by
    have q := DiskM.crash_len M n gb
    rw [hx] at q
    exact q
  have hbx : ∀ i, (w.alloc (.cells #[.int .i64 k, .int .i64 n, .string nm, .string to, .string bb, .bool gb] 32)).cell? ⟨w.heap.size, i, none⟩ = (#[.int .i64 k, .int .i64 n, .string nm, .string to, .string bb, .bool gb] : Array Value)[i]? := fun i => by rw [World.cell?_alloc_mark]
  have b1 : ∀ W', Only (fun k => ¬ (K k ∨ k = w.heap.size)) (w.alloc (.cells #[.int .i64 k, .int .i64 n, .string nm, .string to, .string bb, .bool gb] 32)) W' → W'.cell? ⟨w.heap.size, 1, none⟩ = some (.int .i64 n) ∧ W'.cell? ⟨w.heap.size, 5, none⟩ = some (.bool gb) := fun W' ho => ⟨ho.cell_in (.inr rfl) (hbx 1), ho.cell_in (.inr rfl) (hbx 5)⟩
  have HBX := Lib.hid b1
  clear D hri hfew hok hsm hro hx hb hbx b1
  go_enter Try.func6, Try.ntmps6
  go_wp2_with fail
  go_at_call 10
  refine (DS.out _ HD1.out).mono ?_
  rintro e w2 ⟨rfl, hd, ho⟩
  obtain ⟨c1, c5⟩ := HBX.out _ ho
  have HD2 := Lib.hid hd
  have HO2 := Lib.hid ho
  clear hd ho
  go_wp2_with fail
  go_at_call 23
  refine (XS.out _ HD2.out).mono ?_
  rintro e w3 ⟨rfl, hd, ho⟩
  have HD3 := Lib.hid hd
  have HO3 := Lib.hid ho
  clear hd ho
  go_wp2_with fail
  go_ret
  exact ⟨N, by first | rfl | simp, Duo.less HD3.out (fun k hk => Or.inl hk), Only.two HB1.out HO2.out HO3.out, HL.out⟩
set_option maxRecDepth 20000 in
set_option maxHeartbeats 4000000 in
theorem act_start (K : Nat → Prop) (w : World) (p : Addr) (g : Nat) (M : DiskM.D) (D : Duo K w p g M M) (k n : Int) (nm to bb : ByteArray) (gb : Bool) (hk : (wrap64 (k.tmod 10 + 10)).tmod 10 = 9) :
    Calls Try.prog 6 #[.pointer (some p), .pointer (some ⟨g, 0, none⟩), .agg #[.int .i64 k, .int .i64 n, .string nm, .string to, .string bb, .bool gb]] w fun e w' => ∃ M', e = .returned (.bool true) ∧ Duo K w' p g M' M' ∧ Only (fun k => ¬ K k) w w' ∧ M'.l.length ≤ M.l.length + 1 := by
  obtain ⟨hri, hfew, hok, hsm, hro⟩ := D.facts
  obtain ⟨x, hx⟩ : ∃ x, DiskM.start M = x := ⟨_, rfl⟩
  obtain ⟨r, N⟩ := x
  have hb : Below w.heap.size w (w.alloc (.cells #[.int .i64 k, .int .i64 n, .string nm, .string to, .string bb, .bool gb] 32)) := (Below.refl _ w).alloc (Nat.le_refl _) _
  have HD1 := Lib.hid (D.with_ hb w.heap.size (Nat.le_refl _) (by simp))
  have HB1 := Lib.hid hb
  have DS : Hid (∀ W, Duo (fun k => K k ∨ k = w.heap.size) W p g M M → Calls Try.prog 11 #[.pointer (some p)] W fun e w' => e = .returned (.int .i64 r) ∧ Duo (fun k => K k ∨ k = w.heap.size) w' p g N M ∧ Only (fun k => ¬ (K k ∨ k = w.heap.size)) W w') := fun W h => by
    have q := h.d_step fun F hd => disk_ok.start hd
    rw [hx] at q
    exact q
  have XS : Hid (∀ W, Duo (fun k => K k ∨ k = w.heap.size) W p g N M → Calls Try.prog 24 #[.pointer (some ⟨g, 0, none⟩)] W fun e w' => e = .returned (.int .i64 r) ∧ Duo (fun k => K k ∨ k = w.heap.size) w' p g N N ∧ Only (fun k => ¬ (K k ∨ k = w.heap.size)) W w') := fun W h => by
    have q := h.x_step fun h' hd => start_any W g h' M hd
    rw [hx] at q
    exact q
  have HL : Hid (N.l.length ≤ M.l.length + 1) := by
    have q := DiskM.start_len M
    rw [hx] at q
    exact q
  have hbx : ∀ i, (w.alloc (.cells #[.int .i64 k, .int .i64 n, .string nm, .string to, .string bb, .bool gb] 32)).cell? ⟨w.heap.size, i, none⟩ = (#[.int .i64 k, .int .i64 n, .string nm, .string to, .string bb, .bool gb] : Array Value)[i]? := fun i => by rw [World.cell?_alloc_mark]
  have b1 : ∀ W', Only (fun k => ¬ (K k ∨ k = w.heap.size)) (w.alloc (.cells #[.int .i64 k, .int .i64 n, .string nm, .string to, .string bb, .bool gb] 32)) W' → W'.cell? ⟨w.heap.size, 1, none⟩ = some (.int .i64 n) ∧ W'.cell? ⟨w.heap.size, 5, none⟩ = some (.bool gb) := fun W' ho => ⟨ho.cell_in (.inr rfl) (hbx 1), ho.cell_in (.inr rfl) (hbx 5)⟩
  have HBX := Lib.hid b1
  clear D hri hfew hok hsm hro hx hb hbx b1
  go_enter Try.func6, Try.ntmps6
  go_wp2_with fail
  go_at_call 11
  refine (DS.out _ HD1.out).mono ?_
  rintro e w2 ⟨rfl, hd, ho⟩
  obtain ⟨c1, c5⟩ := HBX.out _ ho
  have HD2 := Lib.hid hd
  have HO2 := Lib.hid ho
  clear hd ho
  go_wp2_with fail
  go_at_call 24
  refine (XS.out _ HD2.out).mono ?_
  rintro e w3 ⟨rfl, hd, ho⟩
  have HD3 := Lib.hid hd
  have HO3 := Lib.hid ho
  clear hd ho
  go_wp2_with fail
  go_ret
  exact ⟨N, by first | rfl | simp, Duo.less HD3.out (fun k hk => Or.inl hk), Only.two HB1.out HO2.out HO3.out, HL.out⟩
end Go.Proofs.Ythclaolmmlgalaa
