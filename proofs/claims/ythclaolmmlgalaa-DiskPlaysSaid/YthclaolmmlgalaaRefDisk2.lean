/- The document's own disk: the calls that turn it in place (Start, Room, Sync). -/
import Derived.Test.YthclaolmmlgalaaRefDisk
import Derived.Deep.RegionHeld3
namespace Go.Proofs.Ythclaolmmlgalaa
open Go.RowKit
set_option linter.unusedVariables false
/-- What a call on the document's disk leaves: the disk turned, its blocks alone turned. -/
def RDoes (f : FuncId) (args : Array Value) (ret : Value) (w : World) (g h : Nat) (M : DiskM.D) : Prop :=
  Calls Try.prog f args w fun e w' => e = .returned ret ∧ (∃ h', RD w' g h' M ∧ (h' = h ∨ w.heap.size ≤ h')) ∧ Only (fun k => k = g ∨ k = h) w w'
theorem start_any (w : World) (g h : Nat) (M : DiskM.D) (R : RD w g h M) :
    RDoes 24 #[.pointer (some ⟨g, 0, none⟩)] (.int .i64 (DiskM.start M).1) w g h (DiskM.start M).2 := by
  have HR := Lib.hid R
  have c2 := R.down
  have f2 := R.free 2
  clear R
  unfold DiskM.start RDoes
  cases hd : M.down
  · rw [hd] at c2
    rw [if_neg (by decide)]
    clear hd
    go_enter Try.func24, Try.ntmps24
    go_wp2_with fail
    go_ret
    exact ⟨rfl, ⟨h, HR.out, .inl rfl⟩, Only.refl _ _⟩
  · rw [hd] at c2
    rw [if_pos rfl]
    clear hd
    go_enter Try.func24, Try.ntmps24
    go_wp2_with fail
    go_ret
    exact ⟨rfl, ⟨h, HR.out.down_put false, .inl rfl⟩, (Only.refl _ _).setCell (.inl (.inl rfl)) _⟩
theorem room_any (w : World) (g h : Nat) (M : DiskM.D) (R : RD w g h M) (n : Int) :
    RDoes 22 #[.pointer (some ⟨g, 0, none⟩), .int .i64 n] (.tuple #[]) w g h (DiskM.room M n) := by
  have HR := Lib.hid R
  have c1 := R.max
  have f1 := R.free 1
  clear R
  unfold RDoes
  obtain ⟨x, hx⟩ : ∃ x, (max 0 (min n 16777216)).toNat = x := ⟨_, rfl⟩
  have HRX := Lib.hid (HR.out.max_put x)
  have hM : DiskM.room M n = { M with max := x } := by rw [DiskM.room, hx]
  rw [hM]
  rcases Int.lt_or_le n 0 with h0 | h0
  · obtain rfl : x = 0 := by omega
    have h1 : n ≤ 16777216 := by omega
    clear hx hM
    go_enter Try.func22, Try.ntmps22
    go_wp2_with fail
    exact ⟨rfl, _, results_none rfl _ _ _, rfl, ⟨h, HRX.out, .inl rfl⟩, (Only.refl _ _).setCell (.inl (.inl rfl)) _⟩
  · rcases Int.lt_or_le 16777216 n with h1 | h1
    · obtain rfl : x = 16777216 := by omega
      clear hx hM
      go_enter Try.func22, Try.ntmps22
      go_wp2_with fail
      exact ⟨rfl, _, results_none rfl _ _ _, rfl, ⟨h, HRX.out, .inl rfl⟩, (Only.refl _ _).setCell (.inl (.inl rfl)) _⟩
    · obtain rfl : n = (x : Int) := by omega
      clear hx hM
      by_cases x0 : x = 0
      · subst x0
        go_enter Try.func22, Try.ntmps22
        go_wp2_with fail
        exact ⟨rfl, _, results_none rfl _ _ _, rfl, ⟨h, HRX.out, .inl rfl⟩, (Only.refl _ _).setCell (.inl (.inl rfl)) _⟩
      · have x1 : (0 : Int) < (x : Int) := by omega
        go_enter Try.func22, Try.ntmps22
        go_wp2_with fail
        exact ⟨rfl, _, results_none rfl _ _ _, rfl, ⟨h, HRX.out, .inl rfl⟩, (Only.refl _ _).setCell (.inl (.inl rfl)) _⟩
/-- One file of the row turned in place. -/
def upd (l : List DiskM.F) (k : Nat) (f : DiskM.F) : List DiskM.F := l.set k f
theorem put_at : ∀ (l : List DiskM.F) (k : Nat) (f : DiskM.F), k < l.length → (∀ i (hi : i < l.length), i < k → l[i].name ≠ f.name) → (∀ (hk : k < l.length), l[k].name = f.name) → (∀ i (hi : i < l.length), i < k → DiskM.lt f.name l[i].name = false) → DiskM.put l f = l.set k f
  | [], k, f, h, _, _, _ => by simp at h
  | x :: l, 0, f, _, _, h, _ => by
    have := h (by simp)
    rw [DiskM.put, if_pos (by simpa using this)]
    rfl
  | x :: l, k + 1, f, hk, h1, h2, h3 => by
    have a := h1 0 (by simp) (by omega)
    have b := h3 0 (by simp) (by omega)
    rw [DiskM.put, if_neg (by simpa using a), if_neg (by simpa using b)]
    rw [put_at l k f (by simpa using hk) (fun i hi hik => h1 (i + 1) (Nat.succ_lt_succ hi) (by omega)) (fun hk' => h2 (Nat.succ_lt_succ hk')) (fun i hi hik => h3 (i + 1) (Nat.succ_lt_succ hi) (by omega))]
    rfl
end Go.Proofs.Ythclaolmmlgalaa
