/- Package value: the reader of bytes: take, number, count, text. -/
import Derived.Test.YtgokjdlemfaagaaVlPut1
import Derived.Test.YtgokjdlemfaagaaBsCut
import Derived.Laws.BitsAllLaws
namespace Go.Proofs.Ytgokjdlemfaagaa
open Go.RowKit
set_option linter.unusedVariables false
/-- A reader at block r: what is left to be read, has it broken off. -/
def Rd (W : World) (r B : Nat) (l : List UInt8) (f : Bool) : Prop := ∃ A c, Blk W r #[.slice A l.length c, .bool f] 58 ∧ (A = none → c = 0) ∧ l.length ≤ c ∧ Bs W B A l ∧ B ≤ r
theorem Blk.two {W : World} {b : Nat} {v0 v1 : Value} {t : TypeId} (h : Blk W b #[v0, v1] t) : W.cell? ⟨b, 0, none⟩ = some v0 ∧ W.cell? ⟨b, 1, none⟩ = some v1 ∧ W.frozen? ⟨b, 0, none⟩ = false ∧ W.frozen? ⟨b, 1, none⟩ = false := by
  have h : W.heap[b]? = _ := h
  simp [World.cell?, World.frozen?, h]
theorem Blk.put0 {W : World} {b : Nat} {v0 v1 : Value} {t : TypeId} (h : Blk W b #[v0, v1] t) (u : Value) : Blk (W.setCell ⟨b, 0, none⟩ u) b #[u, v1] t := by
  have h : W.heap[b]? = _ := h
  show (W.setCell ⟨b, 0, none⟩ u).heap[b]? = _
  simp [World.setCell, Array.getElem?_modify, h]
theorem Blk.put1 {W : World} {b : Nat} {v0 v1 : Value} {t : TypeId} (h : Blk W b #[v0, v1] t) (u : Value) : Blk (W.setCell ⟨b, 1, none⟩ u) b #[v0, u] t := by
  have h : W.heap[b]? = _ := h
  show (W.setCell ⟨b, 1, none⟩ u).heap[b]? = _
  simp [World.setCell, Array.getElem?_modify, h]
theorem grown_set (W : World) (b o : Nat) (v : Value) : W.grownBy (W.setCell ⟨b, o, none⟩ v) (some b) :=
  ⟨rfl, rfl, rfl, (KeepsWalks.setCell W _ v).size, fun k _ hk => Below.heap_setCell _ _ _ k (fun e => hk (by rw [e]))⟩
theorem bs_grown {W W' : World} {r B : Nat} {A : Option Addr} {l : List UInt8} (h : Bs W B A l) (g : W.grownBy W' (some r)) (hB : B ≤ r) (hr : r < W.heap.size) : Bs W' B A l :=
  h.same fun p hp => World.cell?_of_block (g.block p.block (by omega) (fun e => by have := Option.some.inj e; omega))
theorem break_any (W : World) (r B : Nat) (l : List UInt8) (f : Bool) (h : Rd W r B l f) :
    Calls Try.prog 55 #[.pointer (some ⟨r, 0, none⟩)] W fun e W' => e = .returned (.tuple #[]) ∧ Rd W' r B [] true ∧ W.grownBy W' (some r) := by
  obtain ⟨A, c, hb, -, -, -, hB⟩ := h
  obtain ⟨c0, c1, f0, f1⟩ := hb.two
  have HB := Lib.hid hb
  clear hb
  go_enter Try.func55, Try.ntmps55
  go_wp2_with fail
  go_end0
  refine ⟨rfl, ⟨none, 0, (HB.out.put0 _).put1 _, fun _ => rfl, Nat.le_refl _, Bs.empty, hB⟩, (grown_set W r 0 _).trans (grown_set _ r 1 _)⟩
set_option maxHeartbeats 1000000 in
theorem take_ok (W : World) (r B n : Nat) (l : List UInt8) (f : Bool) (h : Rd W r B l f) (hn : n ≤ l.length) (hl : l.length ≤ 1048576) :
    Calls Try.prog 54 #[.pointer (some ⟨r, 0, none⟩), .int .i64 (n : Int)] W fun e W' => ∃ A c, e = .returned (.slice A n c) ∧ Bs W' B A (l.take n) ∧ Rd W' r B (l.drop n) f ∧ W.grownBy W' (some r) := by
  obtain ⟨A, c, hb, hA, hc, hs, hB⟩ := h
  obtain ⟨c0, c1, f0, f1⟩ := hb.two
  have HB := Lib.hid hb
  have HS := Lib.hid hs
  have HA := Lib.hid hA
  have HC := Lib.hid hc
  have sf := fun W => bs_from W A l.length c n hn hc
  have st := fun W => bs_to W A l.length c n (Nat.le_trans hn hc)
  obtain ⟨m, hm⟩ : ∃ m, l.length = m := ⟨_, rfl⟩
  obtain ⟨A2, hA2⟩ : ∃ A2, (if c = n then A else A.map (·.add n)) = A2 := ⟨_, rfl⟩
  rw [hm] at c0 hn hl
  simp only [hm, hA2] at sf st
  have hle : (n : Int) ≤ (m : Int) := by omega
  have HM := Lib.hid hm
  have HA2 := Lib.hid hA2
  have HN := Lib.hid hn
  clear hb hs hA hc hm hA2 hn hl
  go_enter Try.func54, Try.ntmps54
  go_wp2_with fail
  go_ret
  refine ⟨A, c, rfl, ?_, ⟨A2, c - n, ?_, ?_, ?_, ?_, hB⟩, grown_set W r 0 _⟩
  · exact bs_grown (HS.out.front n) (grown_set W r 0 _) hB (Array.getElem?_eq_some_iff.1 HB.out).1
  · have := HB.out.put0 (.slice A2 (m - n) (c - n))
    rw [List.length_drop, HM.out]
    exact this
  · intro e
    have h2 := HA2.out
    have h3 := HA.out
    have h4 := HC.out
    rw [e] at h2
    split at h2
    · rename_i q; omega
    · cases A with
      | none => have := h3 rfl; omega
      | some a => cases h2
  · have h4 := HC.out
    rw [List.length_drop]; omega
  · rw [← HA2.out]
    exact bs_grown (HS.out.behind HC.out) (grown_set W r 0 _) hB (Array.getElem?_eq_some_iff.1 HB.out).1
set_option maxHeartbeats 1000000 in
theorem take_no (W : World) (r B n : Nat) (l : List UInt8) (f : Bool) (h : Rd W r B l f) (hn : l.length < n) :
    Calls Try.prog 54 #[.pointer (some ⟨r, 0, none⟩), .int .i64 (n : Int)] W fun e W' => e = .returned (.slice none 0 0) ∧ Rd W' r B [] true ∧ W.grownBy W' (some r) := by
  have BK := Lib.hid (break_any W r B l f h)
  obtain ⟨A, c, hb, hA, hc, hs, hB⟩ := h
  obtain ⟨c0, c1, f0, f1⟩ := hb.two
  have hle : (l.length : Int) < (n : Int) := by omega
  clear hb hA hc hs hn
  go_enter Try.func54, Try.ntmps54
  go_wp2_with (go_at_call 55; refine BK.out.mono ?_; rintro e W' ⟨rfl, h2, h3⟩)
  go_ret
  exact ⟨rfl, h2, h3⟩
theorem or_val (a : Nat) (b : UInt8) (h : a < 72057594037927936) : bits .or .u64 (IntKind.u64.wrap ((a : Int) * 256)) (IntKind.u64.wrap (b.toNat : Int)) = ((a * 256 + b.toNat : Nat) : Int) := by
  have hb := b.toNat_lt
  have e1 : IntKind.u64.wrap ((a : Int) * 256) = ((2 ^ 8 * a : Nat) : Int) := by rw [IntKind.wrap_u64]; omega
  have e2 : IntKind.u64.wrap (b.toNat : Int) = (b.toNat : Int) := by rw [IntKind.wrap_u64]; omega
  rw [e1, e2, u64_or_nat _ _ (by omega) (by omega), ← Nat.two_pow_add_eq_or_of_lt (by omega) a]
  omega
/-- The number of bytes, the highest one first. -/
def bnum (l : List UInt8) : Nat := l.foldl (fun n b => n * 256 + b.toNat) 0
theorem bnum_snoc (l : List UInt8) (b : UInt8) : bnum (l ++ [b]) = bnum l * 256 + b.toNat := by simp [bnum]
theorem bnum_lt : ∀ (l : List UInt8), bnum l < 256 ^ l.length := by
  intro l
  induction hl : l.length generalizing l with
  | zero => rw [List.eq_nil_of_length_eq_zero hl]; decide
  | succ n ih =>
    obtain ⟨a, b, rfl⟩ : ∃ a b, l = a ++ [b] := ⟨l.dropLast, l.getLast (by intro h; rw [h] at hl; cases hl), (List.dropLast_concat_getLast _).symm⟩
    have la : a.length = n := by simpa using hl
    have h1 := ih a la
    have h2 := b.toNat_lt
    rw [bnum_snoc, Nat.pow_succ]
    omega
set_option maxRecDepth 20000 in
set_option maxHeartbeats 1000000 in
theorem num_ok (W : World) (r B n : Nat) (l : List UInt8) (f : Bool) (h : Rd W r B l f) (hn : n ≤ l.length) (hl : l.length ≤ 1048576) (h8 : n ≤ 8) :
    Calls Try.prog 36 #[.pointer (some ⟨r, 0, none⟩), .int .i64 (n : Int)] W fun e W' => e = .returned (.int .u64 (bnum (l.take n) : Int)) ∧ Rd W' r B (l.drop n) f ∧ W.grownBy W' (some r) := by
  have TK := Lib.hid (take_ok W r B n l f h hn hl)
  have hlen : (l.take n).length = n := by rw [List.length_take]; omega
  have HLEN := Lib.hid hlen
  have n9 : (n : Int) ≤ 8 := by omega
  have n0 : (0 : Int) ≤ (n : Int) := by omega
  have H8 := Lib.hid h8
  clear h hn hl hlen h8
  go_enter Try.func36, Try.ntmps36
  go_wp2_with (go_at_call 54; refine TK.out.mono ?_; rintro e W' ⟨A, c, rfl, hs, hrd, hg⟩)
  have HS := Lib.hid hs
  have HRD := Lib.hid hrd
  have HG := Lib.hid hg
  clear hs hrd hg
  go_loopw [5, 12] (fun v i wr => ∃ k : Nat, k ≤ n ∧ i = .int .i64 k ∧ v = .int .u64 (bnum ((l.take n).take k) : Int) ∧ wr = W') (fun _ i _ => n - (intOf i).toNat)
  case atStart => exact ⟨0, Nat.zero_le _, rfl, rfl, rfl⟩
  case round =>
    obtain ⟨k, hk, rfl, rfl, hwr⟩ := hrel
    obtain rfl := hwr
    have k0 : (0 : Int) ≤ (k : Int) := by omega
    by_cases hlt : k < n
    · have k1 : (k : Int) < (n : Int) := by omega
      have hx : k < (l.take n).length := by rw [HLEN.out]; exact hlt
      obtain ⟨p, rfl, hp, hc⟩ := HS.out k hx
      have nx := Lib.hid (take_more (l.take n) k hx)
      have lt := Lib.hid (bnum_lt ((l.take n).take k))
      obtain ⟨b, hb⟩ : ∃ b, (l.take n)[k] = b := ⟨_, rfl⟩
      rw [hb] at hc nx
      have hbn : Hid (bnum ((l.take n).take (k + 1)) = bnum ((l.take n).take k) * 256 + b.toNat) := by
        show bnum ((l.take n).take (k + 1)) = _
        rw [nx.out, bnum_snoc]
      obtain ⟨a, ha⟩ : ∃ a, bnum ((l.take n).take k) = a := ⟨_, rfl⟩
      rw [ha] at hbn lt ⊢
      clear hb ha
      go_wp2_with fail
      refine ⟨⟨k + 1, hlt, by go_num, ?_, trivial⟩, by simp [intOf]; omega⟩
      have h1 := lt.out
      have h2 := H8.out
      have h3 : a < 72057594037927936 := by
        have e : ((l.take n).take k).length ≤ 7 := by rw [List.length_take]; omega
        exact Nat.lt_of_lt_of_le h1 (Nat.le_trans (Nat.pow_le_pow_right (by decide) e) (by decide))
      rw [hbn.out, or_val a b h3]
    · obtain rfl : k = n := by omega
      go_wp2_with fail
      go_ret
      refine ⟨?_, HRD.out, HG.out⟩
      have e : (l.take k).take k = l.take k := List.take_of_length_le (by rw [HLEN.out]; exact Nat.le_refl _)
      rw [e]
      rfl
set_option maxRecDepth 20000 in
set_option maxHeartbeats 1000000 in
theorem num_no (W : World) (r B n : Nat) (l : List UInt8) (f : Bool) (h : Rd W r B l f) (hn : l.length < n) :
    Calls Try.prog 36 #[.pointer (some ⟨r, 0, none⟩), .int .i64 (n : Int)] W fun e W' => e = .returned (.int .u64 0) ∧ Rd W' r B [] true ∧ W.grownBy W' (some r) := by
  have TK := Lib.hid (take_no W r B n l f h hn)
  clear h hn
  go_enter Try.func36, Try.ntmps36
  go_wp2_with (go_at_call 54; refine TK.out.mono ?_; rintro e W' ⟨rfl, hrd, hg⟩)
  refine wp_loop_rounds 1 ?_
  rw [rounds_succ]
  go_wp2_with fail
  go_ret
  exact ⟨rfl, hrd, hg⟩
set_option maxHeartbeats 1000000 in
theorem cnt_ok (W : World) (r B bound : Nat) (l : List UInt8) (f : Bool) (h : Rd W r B l f) (hn : 4 ≤ l.length) (hl : l.length ≤ 1048576) (hb : bnum (l.take 4) ≤ bound) (h9 : bound ≤ 1048576) :
    Calls Try.prog 38 #[.pointer (some ⟨r, 0, none⟩), .int .u64 (bound : Int)] W fun e W' => e = .returned (.int .i64 (bnum (l.take 4) : Int)) ∧ Rd W' r B (l.drop 4) f ∧ W.grownBy W' (some r) := by
  have NM := Lib.hid (num_ok W r B 4 l f h hn hl (by omega))
  obtain ⟨a, ha⟩ : ∃ a, bnum (l.take 4) = a := ⟨_, rfl⟩
  rw [ha] at NM hb ⊢
  have h1 : (a : Int) ≤ (bound : Int) := by omega
  have h2 : IntKind.i64.wrap (a : Int) = (a : Int) := by rw [IntKind.wrap_i64]; omega
  have h3 : wrap64 (a : Int) = (a : Int) := by rw [← i64w]; exact h2
  clear h hn hl hb h9 ha
  go_enter Try.func38, Try.ntmps38
  go_wp2_with (go_at_call 36; refine NM.out.mono ?_; rintro e W' ⟨rfl, hrd, hg⟩)
  go_ret
  exact ⟨rfl, hrd, hg⟩
set_option maxHeartbeats 1000000 in
theorem cnt_no (W : World) (r B bound : Nat) (l : List UInt8) (f : Bool) (h : Rd W r B l f) (hn : l.length < 4) :
    Calls Try.prog 38 #[.pointer (some ⟨r, 0, none⟩), .int .u64 (bound : Int)] W fun e W' => e = .returned (.int .i64 0) ∧ Rd W' r B [] true ∧ W.grownBy W' (some r) := by
  have NM := Lib.hid (num_no W r B 4 l f h hn)
  have h1 : (0 : Int) ≤ (bound : Int) := by omega
  clear h hn
  go_enter Try.func38, Try.ntmps38
  go_wp2_with (go_at_call 36; refine NM.out.mono ?_; rintro e W' ⟨rfl, hrd, hg⟩)
  go_ret
  exact ⟨rfl, hrd, hg⟩
set_option maxHeartbeats 1000000 in
theorem text_ok (W : World) (r B n : Nat) (l : List UInt8) (f : Bool) (h : Rd W r B l f) (hn : 4 ≤ l.length) (hl : l.length ≤ 1048576) (hb : bnum (l.take 4) = n) (hm : n ≤ 4096) (hk : 4 + n ≤ l.length) :
    Calls Try.prog 37 #[.pointer (some ⟨r, 0, none⟩)] W fun e W' => e = .returned (.string ⟨((l.drop 4).take n).toArray⟩) ∧ Rd W' r B ((l.drop 4).drop n) f ∧ W.grownBy W' (some r) := by
  have CN := Lib.hid (cnt_ok W r B 4096 l f h hn hl (by omega) (by omega))
  have TK := Lib.hid (fun W' (k : Rd W' r B (l.drop 4) f) => take_ok W' r B n (l.drop 4) f k (by rw [List.length_drop]; omega) (by rw [List.length_drop]; omega))
  have hlen : Hid (((l.drop 4).take n).length = n) := by
    show ((l.drop 4).take n).length = n
    rw [List.length_take, List.length_drop]; omega
  rw [hb] at CN
  clear h hn hl hb hm hk
  go_enter Try.func37, Try.ntmps37
  go_wp2_with (go_at_call 38; refine CN.out.mono ?_; rintro e W1 ⟨rfl, hrd1, hg1⟩)
  have TK1 := Lib.hid (TK.out _ hrd1)
  have HG1 := Lib.hid hg1
  clear hg1 hrd1
  go_wp2_with (go_at_call 54; refine TK1.out.mono ?_; rintro e W2 ⟨A, c, rfl, hs, hrd2, hg2⟩; have kv := convert_n c n hlen.out hs)
  go_ret
  exact ⟨rfl, hrd2, HG1.out.trans hg2⟩
end Go.Proofs.Ytgokjdlemfaagaa
