/- Package value: texts, names: what they hand back goes through all strings, through the names. -/
import Derived.Test.YtgokjdlemfaagaaVlSeq
namespace Go.Proofs.Ytgokjdlemfaagaa
open Go.RowKit Go.Shelf
set_option linter.unusedVariables false
attribute [local go_sem] Oper.semAt_some
def both (f : ByteArray × ByteArray) : List ByteArray := [f.1, f.2]
theorem flat_length : ∀ xs : List (ByteArray × ByteArray), (xs.flatMap both).length = xs.length * 2
  | [] => rfl
  | a :: r => by rw [List.flatMap_cons, List.length_append, flat_length r]; simp [both]; omega
theorem flat_take : ∀ (xs : List (ByteArray × ByteArray)) (k : Nat) (h : k < xs.length), (xs.flatMap both).take (k * 2 + 1) = (xs.flatMap both).take (k * 2) ++ [xs[k].1] ∧ (xs.flatMap both).take ((k + 1) * 2) = (xs.flatMap both).take (k * 2) ++ [xs[k].1] ++ [xs[k].2]
  | [], k, h => by cases h
  | a :: r, 0, h => by simp [both]
  | a :: r, k + 1, h => by
    obtain ⟨h1, h2⟩ := flat_take r k (by simpa using h)
    have e1 : (k + 1) * 2 + 1 = (k * 2 + 1) + 2 := by omega
    have e2 : (k + 1) * 2 = k * 2 + 2 := by omega
    have e3 : (k + 1 + 1) * 2 = (k + 1) * 2 + 2 := by omega
    have f : ∀ m, ((a :: r).flatMap both).take (m + 2) = a.1 :: a.2 :: (r.flatMap both).take m := fun m => rfl
    rw [e1, e3, f, f, e2, f, ← e2, h1, h2]
    exact ⟨rfl, rfl⟩

set_option maxRecDepth 100000 in
set_option maxHeartbeats 2000000 in
theorem flat_in (T : Nat → Prop) (l Bs B : Nat) (A : Option Addr) (cap n : Nat) (h62 : n ≤ 1048576) (xs : List (ByteArray × ByteArray)) (hn : xs.length = n) (J Jx : List ByteArray → World → Prop) (W : World) (hJ : AbidesFrom W.heap.size J) (hT : ∀ k, T k → ¬ k < B) (hTW : ∀ k, T k → k < W.heap.size)
    (hY : ∀ pre x W1, J pre W1 → pre.length < n * 2 → YieldAt Fence.wide (7 - 1) Try.prog l #[.string x] W1 fun e W' =>
      (e = .returned (.bool true) ∧ J (pre ++ [x]) W' ∧ Keep T W1 W') ∨ (e = .returned (.bool false) ∧ Jx (pre ++ [x]) W'))
    (hBs : W.cell? ⟨Bs, 0, none⟩ = some (.slice A n cap)) (hc : Cells W B A (fcells xs)) (h0 : J [] W) :
    CallsIn Fence.wide 7 Try.prog 53 #[.func (.yield l) #[] #[], .pointer (some ⟨Bs, 0, none⟩)] W fun e W' => (∃ v, e = .returned v) ∧ ((∃ ys, ys = xs.flatMap both ∧ J ys W') ∨ (∃ pre, pre <+: xs.flatMap both ∧ Jx pre W')) := by
  have HC := Lib.hid hc
  have HN := Lib.hid hn
  have n9 : (n : Int) ≤ 1048576 := by omega
  have n0 : (0 : Int) ≤ (n : Int) := by omega
  clear hc hn h62
  refine callsIn_of_wp Try.func53 rfl trivial ?_ rfl
  simp only [Try.ntmps53, List.size_toArray, List.length_cons, List.length_nil, Nat.reduceAdd, Nat.reduceSub, Array.replicate_succ, Array.replicate_zero, List.push_toArray, List.append_toArray, List.nil_append, List.cons_append]
  gi_wp2
  gi_loopw [7] (fun i wr => ∃ k : Nat, k ≤ n ∧ i = .int .i64 k ∧ J ((xs.flatMap both).take (k * 2)) wr ∧ Keep T W wr ∧ W.heap.size ≤ wr.heap.size) (fun i _ => n - (intOf i).toNat)
  case atStart => exact ⟨0, Nat.zero_le _, rfl, h0, Keep.refl _ _, Nat.le_refl _⟩
  case round =>
    obtain ⟨k, hk, rfl, hJs, hnx, hsz⟩ := hrel
    have HSZ := Lib.hid hsz
    clear hsz
    have k0 : (0 : Int) ≤ (k : Int) := by omega
    by_cases hlt : k < n
    · have k1 : (k : Int) < (n : Int) := by omega
      have hx : k < xs.length := by rw [HN.out]; exact hlt
      obtain ⟨p, rfl, hp, hc1, hc2⟩ := (hnx.cells hT HC.out).at2 k hx
      obtain ⟨t1, t2⟩ := flat_take xs k hx
      have tk1 := Lib.hid t1
      have tk2 := Lib.hid t2
      clear t1 t2
      obtain ⟨x, hxe⟩ : ∃ x, xs[k].1 = x := ⟨_, rfl⟩
      obtain ⟨y, hye⟩ : ∃ y : ByteArray, xs[k].2 = y := ⟨_, rfl⟩
      rw [hxe] at hc1 tk1 tk2
      rw [hye] at hc2 tk2
      clear hxe hye
      have le2 : ((xs.flatMap both).take (k * 2)).length < n * 2 := by rw [List.length_take, flat_length, HN.out]; omega
      have le3 : ((xs.flatMap both).take (k * 2) ++ [x]).length < n * 2 := by rw [List.length_append, List.length_take, flat_length, HN.out, List.length_singleton]; omega
      have LE2 := Lib.hid le2
      have LE3 := Lib.hid le3
      clear le2 le3
      have FR : Hid (¬ T wr.heap.size) := fun q => by have h1 := hTW _ q; have h2 := HSZ.out; omega
      obtain ⟨W2, hW2⟩ : ∃ W2, wr.alloc (.cells #[.string x, .string y] 33) = W2 := ⟨_, rfl⟩
      have hbb : Below wr.heap.size wr W2 := by rw [← hW2]; exact (Below.refl _ wr).alloc (Nat.le_refl _) _
      have HBB := Lib.hid hbb
      have c1 : W2.cell? ⟨wr.heap.size, 0, none⟩ = some (.string x) := by rw [← hW2]; simp
      have c2 : W2.cell? ⟨wr.heap.size, 1, none⟩ = some (.string y) := by rw [← hW2]; simp
      have C2 := Lib.hid c2
      clear hbb c2
      obtain ⟨fn, tmps, assign, body, hy, hR⟩ := hY _ x W2 (hJ _ _ _ none hJs (grown_of HBB.out) (fun r e => nomatch e)) LE2.out
      gi_wp2
      refine hR.mono ?_
      rintro e W3 (⟨rfl, hJ3, hk3⟩ | ⟨rfl, hJx3⟩)
      · have c3 := hk3.cell (p := ⟨wr.heap.size, 1, none⟩) FR.out C2.out
        obtain ⟨fn2, tmps2, assign2, body2, hy2, hR2⟩ := hY _ y W3 hJ3 LE3.out
        gi_wp2
        refine hR2.mono ?_
        rintro e W4 (⟨rfl, hJ4, hk4⟩ | ⟨rfl, hJx4⟩)
        · gi_wp2
          go_roundw
          case rel => exact ⟨k + 1, hlt, by go_num, by rw [tk2.out]; exact hJ4, ((hnx.trans (Keep.of_below HBB.out)).trans hk3).trans hk4, Nat.le_trans HSZ.out (Nat.le_trans HBB.out.size (Nat.le_trans hk3.1 hk4.1))⟩
          case measure => simp [intOf]; omega
        · gi_wp2
          refine bodyPost_ret (results_none rfl _ _ _) rfl ?_
          exact ⟨⟨_, rfl⟩, .inr ⟨_, tk2.out ▸ List.take_prefix _ _, hJx4⟩⟩
      · gi_wp2
        refine ⟨fun _ h => (by cases h), ?_⟩
        gi_wp2
        refine bodyPost_ret (results_none rfl _ _ _) rfl ?_
        exact ⟨⟨_, rfl⟩, .inr ⟨_, tk1.out ▸ List.take_prefix _ _, hJx3⟩⟩
    · obtain rfl : k = n := by omega
      gi_wp2
      go_end0
      exact ⟨⟨_, rfl⟩, .inl ⟨_, by rw [← HN.out, ← flat_length]; exact List.take_length, hJs⟩⟩
end Go.Proofs.Ytgokjdlemfaagaa
