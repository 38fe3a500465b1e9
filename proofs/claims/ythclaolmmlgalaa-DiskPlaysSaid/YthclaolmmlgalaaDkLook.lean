/- Package disk's calls on the relation: New, Size, Synced, Used, Room, Start, Read. -/
import Derived.Test.YthclaolmmlgalaaDkOps
namespace Go.Proofs.Ythclaolmmlgalaa
open Go.RowKit Go.Maps
set_option linter.unusedVariables false

theorem ptr_nil (W : World) (g : Nat) : (binOp .eql 23 (.pointer (some ⟨g, 0, none⟩)) (.pointer none)).run Try.prog W = .ok (.bool false) W := by kernel_rfl
theorem size_len (M : DiskM.D) (s : List UInt8) : DiskM.size M s = DiskM.len M.l s := rfl
set_option maxRecDepth 20000 in
set_option maxHeartbeats 2000000 in
theorem dk_size {w : World} {F : Nat → Prop} {p : Addr} {M : DiskM.D} (h : DiskR w F p M) (s : ByteArray) (hs : s.size ≤ maxLen) : Tells 29 #[.pointer (some p), .string s] (.int .i64 (DiskM.size M s.data.toList : Int)) w := by
  obtain ⟨g, mo, D, rfl, hd⟩ := h
  obtain ⟨A, c, y, hf⟩ := hd.shape s.data.toList
  rw [size_len]
  obtain ⟨n, hn⟩ : ∃ n, DiskM.len M.l s.data.toList = n := ⟨_, rfl⟩
  rw [hn] at hf ⊢
  have c0 := hd.bare.c0
  have hlk : (Instr.lookup 36 (.map mo) (.string s) false).run Try.prog w = .ok (.agg #[.slice A n c, y]) w := by rw [look_file hd.bare.map s hs, hf]
  have hfd : ∀ W : World, (Instr.field 57 (.agg #[.slice A n c, y]) 0).run Try.prog W = .ok (.slice A n c) W := fun W => by kernel_rfl
  clear hd hf hn
  unfold Tells
  go_enter Try.func29, Try.ntmps29
  go_wp2_with fail
  go_ret
  exact ⟨rfl, Below.refl _ _⟩
set_option maxRecDepth 20000 in
set_option maxHeartbeats 2000000 in
theorem dk_synced {w : World} {F : Nat → Prop} {p : Addr} {M : DiskM.D} (h : DiskR w F p M) (s : ByteArray) (hs : s.size ≤ maxLen) : Tells 30 #[.pointer (some p), .string s] (.int .i64 (DiskM.synced M s.data.toList : Int)) w := by
  obtain ⟨g, mo, D, rfl, hd⟩ := h
  obtain ⟨A, n, c, hf⟩ : ∃ A n c, fileAt D s.data.toList = .agg #[.slice A n c, .int .i64 (DiskM.synced M s.data.toList : Int)] := by
    unfold DiskM.synced
    cases e : DiskM.find M.l s.data.toList with
    | none => exact ⟨none, 0, 0, fileAt_none (by rw [hd.keys, e]; rfl)⟩
    | some x =>
      obtain ⟨A, c, k, _⟩ := hd.files _ x e
      exact ⟨A, _, c, k⟩
  obtain ⟨y, hy⟩ : ∃ y, DiskM.synced M s.data.toList = y := ⟨_, rfl⟩
  rw [hy] at hf ⊢
  have c0 := hd.bare.c0
  have hlk : (Instr.lookup 36 (.map mo) (.string s) false).run Try.prog w = .ok (.agg #[.slice A n c, .int .i64 (y : Int)]) w := by rw [look_file hd.bare.map s hs, hf]
  have hfd : ∀ W : World, (Instr.field 57 (.agg #[.slice A n c, .int .i64 (y : Int)]) 1).run Try.prog W = .ok (.int .i64 (y : Int)) W := fun W => by kernel_rfl
  clear hd hf hy
  unfold Tells
  go_enter Try.func30, Try.ntmps30
  go_wp2_with fail
  go_ret
  exact ⟨rfl, Below.refl _ _⟩
set_option maxRecDepth 20000 in
theorem dk_used {w : World} {F : Nat → Prop} {p : Addr} {M : DiskM.D} (h : DiskR w F p M) : Tells 26 #[.pointer (some p)] (.int .i64 (DiskM.used M.l : Int)) w := by
  obtain ⟨g, mo, D, rfl, hd⟩ := h
  have c2 := hd.bare.c2
  obtain ⟨u, hu⟩ : ∃ u, DiskM.used M.l = u := ⟨_, rfl⟩
  rw [hu] at c2 ⊢
  clear hd hu
  unfold Tells
  go_enter Try.func26, Try.ntmps26
  go_wp2_with fail
  go_ret
  exact ⟨rfl, Below.refl _ _⟩
theorem Bare.setDown {w : World} {g : Nat} {mo : Option Nat} {D : DataW Value} {r u : Int} {d : Bool} (h : Bare w g mo D r u d) (d' : Bool) : Bare (w.setCell ⟨g, 3, none⟩ (.bool d')) g mo D r u d' := by
  have hn := h.ne
  have c0 := h.c0; have c1 := h.c1; have c2 := h.c2; have c3 := h.c3
  refine ⟨by rw [World.size_setCell]; exact h.lt, ?_, ?_, ?_, ?_, fun i => by rw [World.frozen?_setCell]; exact h.free i, h.map.same fun b hb => Below.heap_setCell _ _ _ _ (fun e => hn (by rw [hb, e])), hn⟩
  all_goals go_simp
theorem Bare.setRoom {w : World} {g : Nat} {mo : Option Nat} {D : DataW Value} {r u : Int} {d : Bool} (h : Bare w g mo D r u d) (r' : Int) : Bare (w.setCell ⟨g, 1, none⟩ (.int .i64 r')) g mo D r' u d := by
  have hn := h.ne
  have c0 := h.c0; have c1 := h.c1; have c2 := h.c2; have c3 := h.c3
  refine ⟨by rw [World.size_setCell]; exact h.lt, ?_, ?_, ?_, ?_, fun i => by rw [World.frozen?_setCell]; exact h.free i, h.map.same fun b hb => Below.heap_setCell _ _ _ _ (fun e => hn (by rw [hb, e])), hn⟩
  all_goals go_simp
theorem Dk.cell {w : World} {F : Nat → Prop} {E : List UInt8 → Prop} {g : Nat} {mo : Option Nat} {D : DataW Value} {M : DiskM.D} (h : Dk w F E g mo D M) (i : Nat) (v : Value) (m : Nat) (d : Bool) (hm : m ≤ 16777216)
    (hb : Bare (w.setCell ⟨g, i, none⟩ v) g mo D (m : Int) (DiskM.used M.l : Int) d) : Dk (w.setCell ⟨g, i, none⟩ v) F E g mo D ⟨M.l, m, d⟩ :=
  { h with
    bare := hb
    room := hm
    files := fun s x e => by
      obtain ⟨A, c, hf, hr⟩ := h.files s x e
      exact ⟨A, c, hf, fun ne => row_same (hr ne) fun b hb => Below.heap_setCell _ _ _ _ (h.mine s b (by rw [hf]; exact hb)).2.1⟩
    mine := fun s b e => ⟨(h.mine s b e).1, (h.mine s b e).2.1, (h.mine s b e).2.2.1, by rw [World.size_setCell]; exact (h.mine s b e).2.2.2⟩ }
theorem dk_start {w : World} {F : Nat → Prop} {p : Addr} {M : DiskM.D} (h : DiskR w F p M) :
    Does DiskR 11 #[.pointer (some p)] (.int .i64 (DiskM.start M).1) w F p (DiskM.start M).2 := by
  obtain ⟨g, mo, D, rfl, hd⟩ := h
  have HD := Lib.hid hd
  have c3 := hd.bare.c3
  have f3 := hd.bare.free 3
  have hm := hd.room
  have hpn := fun W => ptr_nil W g
  clear hd
  unfold DiskM.start Does
  cases hw : M.down
  · rw [hw] at c3
    rw [if_neg (by decide)]
    clear hw hm
    go_enter Try.func11, Try.ntmps11
    go_wp2_with fail
    go_ret
    exact ⟨rfl, does_end (fun k hk => .inl hk) HD.out (Only.refl _ _) (Below.refl _ _)⟩
  · have HC := Lib.hid (HD.out.cell 3 (.bool false) M.max false hm (HD.out.bare.setDown false))
    rw [hw] at c3
    rw [if_pos rfl]
    clear hw hm
    go_enter Try.func11, Try.ntmps11
    go_wp2_with fail
    go_ret
    exact ⟨rfl, does_end (fun k hk => .inl hk) HC.out ((Only.refl F w).setCell (p := ⟨g, 3, none⟩) (.inl HD.out.Fg) _) (Below.refl _ _)⟩
theorem dk_room {w : World} {F : Nat → Prop} {p : Addr} {M : DiskM.D} (h : DiskR w F p M) (n : Int) :
    Does DiskR 21 #[.pointer (some p), .int .i64 n] (.tuple #[]) w F p (DiskM.room M n) := by
  obtain ⟨g, mo, D, rfl, hd⟩ := h
  have HD := Lib.hid hd
  have c1 := hd.bare.c1
  have f1 := hd.bare.free 1
  have hpn := fun W => ptr_nil W g
  clear hd
  unfold Does
  obtain ⟨x, hx⟩ : ∃ x, (max 0 (min n 16777216)).toNat = x := ⟨_, rfl⟩
  have hM : DiskM.room M n = ⟨M.l, x, M.down⟩ := by rw [DiskM.room, hx]
  have HC := Lib.hid (HD.out.cell 1 (.int .i64 (x : Int)) x M.down (by omega) (HD.out.bare.setRoom (x : Int)))
  rw [hM]
  have key : (n < 0 ∧ x = 0) ∨ (0 ≤ n ∧ 16777216 < n ∧ x = 16777216) ∨ (0 < n ∧ n ≤ 16777216 ∧ n = x) ∨ (n = 0 ∧ x = 0) := by omega
  clear hx hM
  rcases key with ⟨h0, rfl⟩ | ⟨h0, h1, rfl⟩ | ⟨h0, h1, rfl⟩ | ⟨rfl, rfl⟩
  all_goals
    go_enter Try.func21, Try.ntmps21
    go_wp2_with fail
    go_end0
    exact ⟨rfl, does_end (fun k hk => .inl hk) HC.out ((Only.refl F w).setCell (p := ⟨g, 1, none⟩) (.inl HD.out.Fg) _) (Below.refl _ _)⟩
end Go.Proofs.Ythclaolmmlgalaa
