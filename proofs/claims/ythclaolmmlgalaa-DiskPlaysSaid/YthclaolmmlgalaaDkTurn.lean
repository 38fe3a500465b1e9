/- Package disk's calls on the relation: New, Read, Delete, Sync, Cut. -/
import Derived.Test.YthclaolmmlgalaaDkLook
namespace Go.Proofs.Ythclaolmmlgalaa
open Go.RowKit Go.Maps
set_option linter.unusedVariables false

theorem cell_of4 {w : World} {g : Nat} {a b c d : Value} {t : TypeId} (h : w.heap[g]? = some (.cells #[a, b, c, d] t (0, 0))) : w.cell? ⟨g, 0, none⟩ = some a ∧ w.cell? ⟨g, 1, none⟩ = some b ∧ w.cell? ⟨g, 2, none⟩ = some c ∧ w.cell? ⟨g, 3, none⟩ = some d ∧ ∀ i, w.frozen? ⟨g, i, none⟩ = false := by
  refine ⟨?_, ?_, ?_, ?_, fun i => ?_⟩ <;> simp [World.cell?, World.frozen?, h]
set_option maxRecDepth 20000 in
theorem dk_new (n : Nat) (w : World) (hn : n ≤ 16777216) : Calls Try.prog 4 #[.int .i64 (n : Int)] w fun e w' => ∃ p F, e = .returned (.tuple #[.pointer (some p), .int .i64 0]) ∧ DiskR w' F p (DiskM.fresh n) ∧ (∀ k, F k → w.heap.size ≤ k) ∧ Below w.heap.size w w' := by
  have h0 : (0 : Int) ≤ (n : Int) := by omega
  have h1 : (n : Int) ≤ 16777216 := by omega
  have HN := Lib.hid hn
  clear hn
  go_enter Try.func4, Try.ntmps4
  go_wp2_with fail
  go_ret2
  have hh : (w.alloc (.cells #[.map none, .int .i64 (n : Int), .int .i64 0, .bool false] 38)).heap[w.heap.size]? = some (.cells #[.map none, .int .i64 (n : Int), .int .i64 0, .bool false] 38 (0, 0)) := heap_alloc_new _ _
  obtain ⟨k0, k1, k2, k3, kf⟩ := cell_of4 hh
  refine ⟨_, fun k => k = w.heap.size, rfl, ⟨w.heap.size, none, .map [], rfl, ⟨⟨by simp, k0, k1, k2, k3, kf, rfl, by simp⟩, rfl, (fun b e => nomatch e), fun s => rfl, (fun s x e => nomatch e), (fun s k e => nomatch e), (fun s t k _ e => nomatch e), rfl, List.Pairwise.nil, Nat.zero_le _, (fun f hf => nomatch hf), Nat.zero_le _, HN.out⟩⟩, fun k hk => by rw [hk]; exact Nat.le_refl _, (Below.refl _ w).alloc (Nat.le_refl _) _⟩
set_option maxRecDepth 20000 in
theorem dk_bad (n : Int) (w : World) (h : n < 0 ∨ 16777216 < n) : Tells 4 #[.int .i64 n] (.tuple #[.pointer none, .int .i64 7]) w := by
  unfold Tells
  by_cases h0 : n < 0
  · clear h
    go_enter Try.func4, Try.ntmps4
    go_wp2_with fail
    go_ret2
    exact ⟨rfl, Below.refl _ _⟩
  · have h1 : 0 ≤ n := by omega
    have h2 : 16777216 < n := by omega
    clear h h0
    go_enter Try.func4, Try.ntmps4
    go_wp2_with fail
    go_ret2
    exact ⟨rfl, Below.refl _ _⟩
set_option maxRecDepth 20000 in
set_option maxHeartbeats 2000000 in
theorem dk_read {w : World} {F : Nat → Prop} {p : Addr} {M : DiskM.D} (h : DiskR w F p M) (s : ByteArray) (hs : s.size ≤ maxLen) :
    Calls Try.prog 12 #[.pointer (some p), .string s] w fun e w' => (∃ v, e = .returned (.tuple #[v, .int .i64 (DiskM.read M s.data.toList).2]) ∧ IsBytes w' v (DiskM.read M s.data.toList).1) ∧ Below w.heap.size w w' := by
  obtain ⟨g, mo, D, rfl, hd⟩ := h
  have HD := Lib.hid hd
  have hfi := dfind hd s hs
  clear hd
  have hdr : DiskM.read M s.data.toList = match DiskM.have_ M s.data.toList with
    | .error e => ([], e)
    | .ok f => (f.b, 0) := rfl
  rw [hdr]
  cases hv : DiskM.have_ M s.data.toList with
  | error r =>
    rw [hv] at hfi
    clear hv hdr
    dsimp only at hfi ⊢
    go_enter Try.func12, Try.ntmps12
    go_wp2_with fail
    go_at_call 34
    refine hfi.mono ?_
    rintro e w1 ⟨⟨A, n, c, y, rfl, hk⟩, hb⟩
    have HB := Lib.hid hb
    clear hb hfi
    obtain ⟨r0, rfl, rfl, rfl⟩ := hk
    go_wp2_with fail
    go_at_call 36
    refine (clone_any _ none [] 0 (fun _ => rfl) Bs.empty (by simp)).mono ?_
    rintro e w2 ⟨v, rfl, ho, hb2⟩
    have HO := Lib.hid ho
    have HB2 := Lib.hid hb2
    clear ho hb2
    go_wp2_with fail
    go_ret2
    obtain ⟨A2, c2, hv2, -, hA2, hbs⟩ := Bs.of_own HO.out
    exact ⟨⟨v, rfl, A2, c2, hv2, hA2, by simp, hbs⟩, (HB.out.alloc HB.out.size _).trans (HB2.out.mono (by have := HB.out.size; simp; omega))⟩
  | ok x =>
    rw [hv] at hfi
    clear hv hdr
    dsimp only at hfi ⊢
    obtain ⟨l, hl⟩ : ∃ l, x.b = l := ⟨_, rfl⟩
    rw [hl]
    go_enter Try.func12, Try.ntmps12
    go_wp2_with fail
    go_at_call 34
    refine hfi.mono ?_
    rintro e w1 ⟨⟨A, n, c, y, rfl, hk⟩, hb⟩
    have HB := Lib.hid hb
    clear hb hfi
    obtain ⟨hx, hf, rfl, rfl⟩ := hk
    obtain ⟨A', c', hf', hr⟩ := HD.out.files _ _ hx
    rw [hf] at hf'
    injection hf' with hf'
    have e1 : A = A' ∧ c = c' := by
      injection hf' with hf'
      injection hf' with e1 e2
      injection e1 with e3 e4 e5
      exact ⟨e3, e5⟩
    obtain ⟨rfl, rfl⟩ := e1
    have hrow := hr (fun z => z)
    obtain ⟨A3, c3, e3, -, hA3, hbs⟩ := Bs.of_own hrow
    injection e3 with e4 e5 e6
    subst e4 e6
    have hsm : x.b.length ≤ 1073741824 := by
      have := DiskM.len_le M.l s.data.toList
      have h2 : DiskM.len M.l s.data.toList = x.b.length := by unfold DiskM.len; rw [hx]
      have := HD.out.small
      omega
    have hcl := fun (C : Array Value) (t : TypeId) => clone_any (w1.alloc (.cells C t)) A x.b c hA3 (hbs.later (below_then HB.out ((Below.refl _ w1).alloc (Nat.le_refl _) _))) hsm
    obtain ⟨sy, hsy⟩ : ∃ sy, x.sync = sy := ⟨_, rfl⟩
    rw [hl] at hcl ⊢
    rw [hsy]
    obtain ⟨n, hn⟩ : ∃ n, l.length = n := ⟨_, rfl⟩
    rw [hn] at hcl ⊢
    have HCL := Lib.hid hcl
    clear hr hf hf' hrow hbs hsm hl hsy hx hA3 hcl
    go_wp2_with fail
    go_at_call 36
    refine (HCL.out _ _).mono ?_
    rintro e w2 ⟨v, rfl, ho, hb2⟩
    have HO := Lib.hid ho
    have HB2 := Lib.hid hb2
    clear ho hb2
    go_wp2_with fail
    go_ret2
    rw [← hn] at HO
    obtain ⟨A2, c2, hv2, -, hA2, hbs⟩ := Bs.of_own HO.out
    obtain ⟨A9, c9, e9, -, h9⟩ := own_slice HO.out
    have h10 : l.length ≤ c2 := by rw [hv2] at e9; injection e9 with _ _ e9; omega
    exact ⟨⟨v, rfl, A2, c2, hv2, hA2, h10, hbs⟩, (HB.out.alloc HB.out.size _).trans (HB2.out.mono (by have := HB.out.size; simp; omega))⟩
end Go.Proofs.Ythclaolmmlgalaa
