/- Tokens compared: the document's comparison of two rows of tokens. -/
import Derived.Test.YtikbgkndfmcfhaaDoorLxL
import Derived.BigRegion
namespace Go.Proofs.YtikbgkndfmcfhaaDoor
open Go.RowKit
set_option linter.unusedVariables false
theorem run_neq_tok (W : World) (a a' : Int) (s s' : ByteArray) (n n' : Int) (p p' : Int) : (binOp .neq 31 (.agg #[.int .i64 a, .string s, .int .i64 n, .int .i64 p]) (.agg #[.int .i64 a', .string s', .int .i64 n', .int .i64 p'])).run Tryd.prog W = .ok (.bool (!((a == a') && ((s.toList == s'.toList) && ((n == n') && (p == p')))))) W := by
  go_simp
  by_cases h : s.toList = s'.toList <;> by_cases k : a = a' <;> by_cases l : n = n' <;> by_cases m : p = p' <;> simp [h, k, l, m]
theorem run_neq_alike (W : World) (a : Int) (s : ByteArray) (n p : Int) : (binOp .neq 31 (.agg #[.int .i64 a, .string s, .int .i64 n, .int .i64 p]) (.agg #[.int .i64 a, .string s, .int .i64 n, .int .i64 p])).run Tryd.prog W = .ok (.bool false) W := by
  rw [run_neq_tok]
  simp
theorem add_more (p : Addr) (n j : Nat) (hj : 0 < j) : p.add (n + j) = ⟨(p.add n).block, (p.add n).off + j, none⟩ := by
  by_cases hn : n = 0
  · subst hn
    simp [Addr.add]; omega
  · have : n + j ≠ 0 := by omega
    simp [Addr.add, hn]; omega
/-- A token at an address, as the walk spells it. -/
def TokAt (w : World) (q : Addr) (t : LxM.T) : Prop := w.cell? q = some (.int .i64 t.kind) ∧ w.cell? ⟨q.block, q.off + 1, none⟩ = some (.string ⟨t.text.toArray⟩) ∧ w.cell? ⟨q.block, q.off + 2, none⟩ = some (.int .i64 t.n) ∧ w.cell? ⟨q.block, q.off + 3, none⟩ = some (.int .i64 (t.at_ : Int))
theorem TList.tok {w : World} {A : Option Addr} {n c : Nat} {l : List LxM.T} (h : TList w (.slice A n c) l) : n = l.length ∧ (A = none → c = 0) ∧ l.length ≤ c ∧ ∀ i (hi : i < l.length), ∃ p : Addr, A = some p ∧ p.block < w.heap.size ∧ TokAt w (p.add (i * 4)) l[i] := by
  obtain ⟨A', c', e, hA, hc, hr⟩ := h
  injection e with e1 e2 e3
  subst e1; subst e2; subst e3
  refine ⟨rfl, hA, hc, fun i hi => ?_⟩
  obtain ⟨p, ep, hp, h0, h1, h2, h3⟩ := hr i hi
  rw [add_more _ _ _ (by decide)] at h1 h2 h3
  exact ⟨p, ep, hp, h0, h1, h2, h3⟩
theorem TokAt.keep {w w' : World} {q : Addr} {t : LxM.T} {B : Nat} (h : TokAt w q t) (hb : Below B w w') (hq : q.block < B) : TokAt w' q t := by
  obtain ⟨h0, h1, h2, h3⟩ := h
  exact ⟨by rw [hb.cell hq]; exact h0, by rw [hb.cell (p := ⟨q.block, q.off + 1, none⟩) hq]; exact h1, by rw [hb.cell (p := ⟨q.block, q.off + 2, none⟩) hq]; exact h2, by rw [hb.cell (p := ⟨q.block, q.off + 3, none⟩) hq]; exact h3⟩
theorem TList.shows {w : World} {v : Value} {l : List LxM.T} (h : TList w v l) : ∃ A c, v = .slice A l.length c ∧ (A = none → c = 0) ∧ l.length ≤ c := by
  obtain ⟨A, c, e, hA, hc, _⟩ := h
  exact ⟨A, c, e, hA, hc⟩
set_option maxRecDepth 20000 in
set_option maxHeartbeats 2000000 in
theorem same_any (w : World) (v v' : Value) (l : List LxM.T) (h : TList w v l) (h' : TList w v' l) (hl : l.length ≤ 100000) :
    Calls Tryd.prog 11 #[v, v'] w fun e w' => e = .returned (.bool true) ∧ Below w.heap.size w w' := by
  obtain ⟨A, c, rfl, hA0, hc0⟩ := h.shows
  obtain ⟨A', c', rfl, hA0', hc0'⟩ := h'.shows
  obtain ⟨-, hA, hc, hr⟩ := h.tok
  obtain ⟨-, hA', hc', hr'⟩ := h'.tok
  have H1 := Lib.hid hr
  have H2 := Lib.hid hr'
  obtain ⟨n, hn⟩ : ∃ n, l.length = n := ⟨_, rfl⟩
  have HN := Lib.hid hn
  rw [hn] at hl hc hc' ⊢
  have n9 : (n : Int) ≤ 100000 := by omega
  have n0 : (0 : Int) ≤ (n : Int) := by omega
  clear hr hr' hn hA hA' hc hc' hl h h' hA0 hA0' hc0 hc0'
  go_enter Tryd.func11, Tryd.ntmps11
  go_wp2_with fail
  go_loopw [5] (fun i wr => ∃ k : Nat, k ≤ n ∧ i = .int .i64 k ∧ Below w.heap.size w wr) (fun i _ => n - (intOf i).toNat)
  case atStart => exact ⟨0, Nat.zero_le _, rfl, Below.refl _ _⟩
  case round =>
    obtain ⟨k, hk, rfl, hb⟩ := hrel
    have HB := Lib.hid hb
    have k0 : (0 : Int) ≤ (k : Int) := by omega
    by_cases hlt : k < n
    · have k1 : (k : Int) < (n : Int) := by omega
      obtain ⟨p, rfl, hp, tk1⟩ := H1.out k (by rw [HN.out]; exact hlt)
      obtain ⟨p', rfl, hp', tk2⟩ := H2.out k (by rw [HN.out]; exact hlt)
      obtain ⟨t, ht⟩ : ∃ t, l[k]'(by rw [HN.out]; exact hlt) = t := ⟨_, rfl⟩
      rw [ht] at tk1 tk2
      obtain ⟨e0, e1, e2, e3⟩ := tk1.keep hb (by rw [add_block]; exact hp)
      obtain ⟨g0, g1, g2, g3⟩ := tk2.keep hb (by rw [add_block]; exact hp')
      have ne := run_neq_alike
      clear hp hp' ht tk1 tk2 hb
      go_wp2_with fail
      go_region
      go_wp2_with fail
      exact ⟨⟨k + 1, hlt, by go_num, HB.out.drew⟩, by simp [intOf]; omega⟩
    · have k1 : (n : Int) ≤ (k : Int) := by omega
      clear hb
      go_wp2_with fail
      go_ret
      exact ⟨rfl, HB.out⟩
end Go.Proofs.YtikbgkndfmcfhaaDoor
