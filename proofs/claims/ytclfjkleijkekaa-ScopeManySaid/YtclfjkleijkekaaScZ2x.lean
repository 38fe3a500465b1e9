/- Scripts of many local names: what the document's parser makes of their bytes. -/
import Derived.Test.YtclfjkleijkekaaScXx
import Derived.Test.YtclfjkleijkekaaScY2x
namespace Go.Proofs.Ytclfjkleijkekaa
open Go.RowKit PrM
set_option linter.unusedVariables false
set_option linter.unusedSimpArgs false
namespace Mny
theorem blks_more (x : List UInt8) : ∀ (i : Nat) (r : List UInt8), blks i r ++ x = blks i (r ++ x)
  | 0, r => rfl
  | i + 1, r => by rw [blks, List.append_assoc, blks_more x i r]; rfl
theorem blks_next : ∀ (i : Nat) (r : List UInt8), blks i (blk ++ r) = blks (i + 1) r
  | 0, r => rfl
  | i + 1, r => by
    show blk ++ blks i (blk ++ r) = _
    rw [blks_next i r]
    rfl
theorem locs_more (x : List UInt8) : ∀ (i : Nat) (r : List UInt8), locs i r ++ x = locs i (r ++ x)
  | 0, r => rfl
  | i + 1, r => by rw [locs, List.append_assoc, locs_more x i r]; rfl
theorem locs_next : ∀ (i : Nat) (r : List UInt8), locs i (loc ++ r) = locs (i + 1) r
  | 0, r => rfl
  | i + 1, r => by
    show loc ++ locs i (loc ++ r) = _
    rw [locs_next i r]
    rfl
theorem ans_of {s : ByteArray} {T : List LxM.T} (h : LxM.lexT s.data.toList.length (LxM.sk false s.data.toList) = .ok T) : ansS s = ((script T).1, (script T).2.code, (script T).2.at_) := by
  unfold ansS
  rw [LxM.lexC_eq]
  unfold LxM.lex LxM.lexS
  rw [h]
theorem many_top {s : ByteArray} {b k : Nat} (hk : 1 ≤ k) (hb : b < 20) (hk2 : k < 160) (hs : s.data.toList = blks b (locs k [])) : okS s = true ∧ ((ScM.chk (ansS s).1).err = (if k ≤ 148 then 0 else 8) ∧ (ScM.chk (ansS s).1).at_ = (if k ≤ 148 then 0 else ((23 * b + 8 * 148 : Nat) : Int))) := by
  have n : s.data.toList.length = 23 * b + 8 * k := by rw [hs, blks_len, locs_len]; rfl
  have z : s.size = 23 * b + 8 * k := by rw [← n]; simp
  have hl : LxM.lexT s.data.toList.length (LxM.sk false s.data.toList) = .ok (tkBlks 0 b ++ (tkLocs (23 * b) k ++ [⟨0, [], 0, 23 * b + 8 * k⟩])) := by
    rw [n, hs, blks_sk (locs_sk rfl k) b, lex_blks _ _ (locs_sk rfl k) b 0 (by rw [locs_len]; simp), lex_locs _ [] rfl k (23 * b) (by simp), LxM.lexT_nil]
    rfl
  obtain ⟨h1, h2, h3⟩ := script_top (b := b) (k := k) (n := 23 * b + 8 * k) hk _ rfl
  have an := ans_of hl
  rw [h1, h2, h3] at an
  refine ⟨?_, ?_⟩
  · unfold okS
    rw [an, z]
    show (decide _ && (decide ((0 : Int) = 0) && decide (ScM.sz (rows 0 b (23 * b) k) ≤ 900000000000))) = true
    rw [rows_sz, decide_eq_true (by omega), decide_eq_true rfl, decide_eq_true (by omega)]
    rfl
  · rw [an]
    exact chk_top b k
theorem many_fun {s : ByteArray} {b k : Nat} (hk : 1 ≤ k) (hb : b < 20) (hk2 : k < 160) (hs : s.data.toList = pre ++ blks b (locs k fin)) : okS s = true ∧ ((ScM.chk (ansS s).1).err = (if k ≤ 150 then 0 else 8) ∧ (ScM.chk (ansS s).1).at_ = (if k ≤ 150 then 0 else ((21 + 23 * b + 8 * 150 : Nat) : Int))) := by
  have n : s.data.toList.length = 21 + (23 * b + (8 * k + 3)) := by rw [hs, List.length_append, blks_len, locs_len]; rfl
  have z : s.size = 21 + (23 * b + (8 * k + 3)) := by rw [← n]; simp
  have hl : LxM.lexT s.data.toList.length (LxM.sk false s.data.toList) = .ok (tkPre ++ (tkBlks 21 b ++ (tkLocs (21 + 23 * b) k ++ [⟨1, fin, 0, 21 + 23 * b + 8 * k⟩, ⟨0, [], 0, 21 + (23 * b + (8 * k + 3))⟩]))) := by
    rw [n, hs, show LxM.sk false (pre ++ blks b (locs k fin)) = pre ++ blks b (locs k fin) from rfl, lex_pre _ _ (blks_sk (locs_sk rfl k) b) (by rw [blks_len, locs_len]; rfl), lex_blks _ _ (locs_sk rfl k) b 21 (by rw [locs_len]; rfl), lex_locs _ fin rfl k (21 + 23 * b) (by show _ = 21 + 23 * b + (8 * k + 3); omega), lex_fin _ (21 + 23 * b + 8 * k) (by omega)]
    rfl
  obtain ⟨h1, h2, h3⟩ := script_fun (b := b) (k := k) (u := 21 + 23 * b + 8 * k) (v := 21 + (23 * b + (8 * k + 3))) hk _ rfl
  have an := ans_of hl
  rw [h1, h2, h3] at an
  refine ⟨?_, ?_⟩
  · have e : ScM.sz (.cons (S2 b k) .nil) = 1 + 1 + (1 + 0 + (1 + 0 + ScM.sz (rows 21 b (21 + 23 * b) k) + 0)) + 0 + 0 + 0 + 0 := rfl
    unfold okS
    rw [an, z]
    show (decide _ && (decide ((0 : Int) = 0) && decide (ScM.sz (.cons (S2 b k) .nil) ≤ 900000000000))) = true
    rw [e, rows_sz, decide_eq_true (by omega), decide_eq_true rfl, decide_eq_true (by omega)]
    rfl
  · rw [an]
    exact chk_fun b k
end Mny
theorem mod20u (p : Int) : ∃ k : Nat, k < 20 ∧ wrap64 ((IntKind.u64.wrap p).tmod 20) = (k : Int) := by
  obtain ⟨N, hN⟩ : ∃ N : Nat, IntKind.u64.wrap p = (N : Int) := ⟨(IntKind.u64.wrap p).toNat, by
    have : 0 ≤ IntKind.u64.wrap p := by rw [IntKind.wrap_u64]; omega
    omega⟩
  refine ⟨N % 20, Nat.mod_lt _ (by omega), ?_⟩
  rw [hN, show ((20 : Int)) = ((20 : Nat) : Int) from rfl, ← Int.ofNat_tmod]
  have : N % 20 < 20 := Nat.mod_lt _ (by omega)
  unfold wrap64; omega
/-- The bytes that are put behind. -/
theorem put_bytes (t x : ByteArray) : (t ++ x).data.toList = t.data.toList ++ x.data.toList := by simp
theorem size_of {t : ByteArray} {l : List UInt8} (h : t.data.toList = l) : t.size = l.length := by rw [← h]; simp
end Go.Proofs.Ytclfjkleijkekaa
