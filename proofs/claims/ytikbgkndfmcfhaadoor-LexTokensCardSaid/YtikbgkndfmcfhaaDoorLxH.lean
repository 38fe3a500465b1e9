/- Package lex: the text between marks: two digits; its end (printed by genlxt.py). -/
import Derived.Test.YtikbgkndfmcfhaaDoorLxT
namespace Go.Proofs.YtikbgkndfmcfhaaDoor
open Go.RowKit
set_option linter.unusedVariables false
theorem row_grown {W0 W : World} {g b : Nat} {cs : Array Value} (h : W0.grownBy W (some g)) (hb : W0.heap.size ≤ b) : W0.grownBy (W.setRow b cs) (some g) := by
  have r := grown_row W b cs
  exact ⟨r.os.trans h.os, r.tape.trans h.tape, r.output.trans h.output, Nat.le_trans h.size r.size, fun i hi hne => (r.block i (Nat.lt_of_lt_of_le hi h.size) (fun e => by have := Option.some.inj e; omega)).trans (h.block i hi hne)⟩
theorem hx_lo (b : Int) : LxM.hx b = -1 ∨ 0 ≤ LxM.hx b ∧ LxM.hx b ≤ 15 := by
  unfold LxM.hx LxM.dg
  simp only [Bool.and_eq_true, decide_eq_true_eq]
  split
  · omega
  · split
    · omega
    · split <;> omega
theorem hexq_none (m : UInt8) (s : ByteArray) (k : Nat) (h : LxM.hx (pk s k) = -1 ∨ LxM.hx (pk s (if k < s.size then k + 1 else k)) = -1) : LxM.hexq m (s.data.toList.drop k) = none := by
  unfold LxM.hexq
  by_cases h1 : k < s.size
  · rw [if_pos h1] at h
    by_cases h2 : k + 1 < s.size
    · rw [drop_cons s k h1, drop_cons s (k + 1) h2]
      rw [pk_in s k h1, pk_in s (k + 1) h2] at h
      exact if_pos h
    · rw [drop_cons s k h1, drop_none s (k + 1) (by omega)]
  · rw [drop_none s k (by omega)]
theorem hexq_some (m : UInt8) (s : ByteArray) (k : Nat) (hk : k ≤ s.size) (h1 : LxM.hx (pk s k) ≠ -1) (h2 : LxM.hx (pk s (if k < s.size then k + 1 else k)) ≠ -1) :
    (if k < s.size then k + 1 else k) = k + 1 ∧ (if (if k < s.size then k + 1 else k) < s.size then (if k < s.size then k + 1 else k) + 1 else (if k < s.size then k + 1 else k)) = k + 2 ∧
    LxM.hexq m (s.data.toList.drop k) = (LxM.qt m (s.data.toList.drop (k + 2))).map fun x => (UInt8.ofNat (LxM.hx (pk s k) * 16 + LxM.hx (pk s (if k < s.size then k + 1 else k))).toNat :: x.1, x.2) := by
  have z : LxM.hx (-1) = -1 := by decide
  have e1 : k < s.size := by
    rcases Nat.lt_or_ge k s.size with x | x
    · exact x
    · exact absurd (by rw [pk_end s k x]; exact z) h1
  rw [if_pos e1] at h2 ⊢
  have e2 : k + 1 < s.size := by
    rcases Nat.lt_or_ge (k + 1) s.size with x | x
    · exact x
    · exact absurd (by rw [pk_end s _ x]; exact z) h2
  rw [if_pos e2]
  refine ⟨rfl, rfl, ?_⟩
  unfold LxM.hexq
  rw [pk_in s k e1, pk_in s (k + 1) e2] at *
  rw [drop_cons s k e1, drop_cons s (k + 1) e2]
  exact if_neg (fun h => h.elim h1 h2)
theorem or4 : ∀ p : Nat, p < 16 → ∀ q : Nat, q < 16 → bits .or .i64 ((p : Int) * 16) (q : Int) = (p : Int) * 16 + (q : Int) := by decide
set_option maxRecDepth 20000 in
set_option maxHeartbeats 2000000 in
theorem t_pass5 {W0 : World} {g f : Nat} {s : ByteArray} {tv : Value} {rb k0 : Nat} {m : UInt8} (hs : s.size ≤ 16384) (a : Act) (w : World) (h : JT W0 g f s tv rb k0 m 5 a w) : ∃ rest, findLabel codeT 5 = some rest ∧ rest.wp Tryd.prog (passT W0 g f s tv rb k0 m 5 a w) a w := by
  refine ⟨_, rfl, ?_⟩
  obtain ⟨b, hi, lo, dv, k, acc, ⟨u10, u11, u12, u13, u14, u15, u16, u17, u18, u19, u20, u21, u22, u23, u24, u25, u26, u27, u28, u29, u30, u31, u32, u33, u34, u35, u36, u37, u38, u39, u40, u41, u42, u43, u44, u45, u46, u47, u48, u49, u50, u51, u52, u53, u54, u55, u56, u57, u58, u59, u60, u61, rfl⟩, tx, hF⟩ := h
  have TXX := Lib.hid tx
  have HF := Lib.hid (show LxM.qt m (s.data.toList.drop k0) = LxM.app acc (LxM.hexq m (s.data.toList.drop k)) from hF)
  have KO := Lib.hid tx.rd.kof
  have HK := Lib.hid tx.hk
  have TK := Lib.hid (take_any w g s f k tv tx.rd tx.hk hs)
  have TK2 := fun w1 k1 (h : Rb w1 g s f k1 tv) (hk : k1 ≤ s.size) => take_any w1 g s f k1 tv h hk hs
  have NO := Lib.hid (hexq_none m s k)
  have YES := Lib.hid (hexq_some m s k tx.hk)
  have p1 := pk_lo s k
  have p2 := pk_lo s (if k < s.size then k + 1 else k)
  have X1 := fun w => hex_any (pk s k) w p1.1 p1.2
  have X2 := fun w => hex_any (pk s (if k < s.size then k + 1 else k)) w p2.1 p2.2
  have r1 := hx_lo (pk s k)
  have r2 := hx_lo (pk s (if k < s.size then k + 1 else k))
  have TK2 := fun w1 => TK2 w1 (if k < s.size then k + 1 else k)
  have K2 : Hid (k ≤ (if k < s.size then k + 1 else k) ∧ (if k < s.size then k + 1 else k) ≤ s.size ∧ (if k < s.size then k + 1 else k) ≤ (if (if k < s.size then k + 1 else k) < s.size then (if k < s.size then k + 1 else k) + 1 else (if k < s.size then k + 1 else k)) ∧ (if (if k < s.size then k + 1 else k) < s.size then (if k < s.size then k + 1 else k) + 1 else (if k < s.size then k + 1 else k)) ≤ s.size) := by
    show _ ∧ _ ∧ _ ∧ _
    have := tx.hk
    refine ⟨?_, ?_, ?_, ?_⟩ <;> (repeat' split) <;> omega
  generalize (if (if k < s.size then k + 1 else k) < s.size then (if k < s.size then k + 1 else k) + 1 else (if k < s.size then k + 1 else k)) = k2 at *
  generalize (if k < s.size then k + 1 else k) = k1 at *
  generalize LxM.hx (pk s k) = p at *
  generalize LxM.hx (pk s k1) = q at *
  generalize pk s k = x at *
  generalize pk s k1 = y at *
  clear tx hF p1 p2
  by_cases hp : p = -1
  · subst hp
    have FIN := Lib.hid (NO.out (.inl rfl))
    clear NO YES
    refine wp_seq (wp_skip ?_)
    go_wp2_with (first
      | (go_at_call 27; refine TK.out.mono ?_; rintro e W1 ⟨rfl, rd1, gr1⟩; have TX1 := Lib.hid (TXX.out.step rd1 gr1 K2.out.1 K2.out.2.1); clear rd1 gr1 TK)
      | (go_at_call 27; refine (TK2 _ TX1.out.rd TX1.out.hk).mono ?_; rintro e W2 ⟨rfl, rd1, gr1⟩; have TX2 := Lib.hid (TX1.out.step rd1 gr1 K2.out.2.2.1 K2.out.2.2.2); clear rd1 gr1)
      | (go_at_call 39; refine (X1 _).mono ?_; rintro e w' ⟨rfl, rfl⟩; clear X1)
      | (go_at_call 39; refine (X2 _).mono ?_; rintro e w' ⟨rfl, rfl⟩))
    go_step3
    exact goes FrT.mk TX2.out (by show LxM.qt _ _ = _; rw [HF.out, FIN.out]; rfl) KO.out (by have := K2.out; show _ + 0 < _ + 3; omega)
  · have hp' : 0 ≤ p ∧ p ≤ 15 := r1.resolve_left hp
    by_cases hq : q = -1
    · subst hq
      have n1 : (p == -1) = false := by rw [beq_eq_false_iff_ne]; exact hp
      have FIN := Lib.hid (NO.out (.inr rfl))
      clear NO YES r1 r2 hp hp'
      refine wp_seq (wp_skip ?_)
      go_wp2_with (first
      | (go_at_call 27; refine TK.out.mono ?_; rintro e W1 ⟨rfl, rd1, gr1⟩; have TX1 := Lib.hid (TXX.out.step rd1 gr1 K2.out.1 K2.out.2.1); clear rd1 gr1 TK)
      | (go_at_call 27; refine (TK2 _ TX1.out.rd TX1.out.hk).mono ?_; rintro e W2 ⟨rfl, rd1, gr1⟩; have TX2 := Lib.hid (TX1.out.step rd1 gr1 K2.out.2.2.1 K2.out.2.2.2); clear rd1 gr1)
      | (go_at_call 39; refine (X1 _).mono ?_; rintro e w' ⟨rfl, rfl⟩; clear X1)
      | (go_at_call 39; refine (X2 _).mono ?_; rintro e w' ⟨rfl, rfl⟩))
      go_step3
      exact goes FrT.mk TX2.out (by show LxM.qt _ _ = _; rw [HF.out, FIN.out]; rfl) KO.out (by have := K2.out; show _ + 0 < _ + 3; omega)
    · have hq' : 0 ≤ q ∧ q ≤ 15 := r2.resolve_left hq
      obtain ⟨e1, e2, e3⟩ := YES.out hp hq
      have n1 : (p == -1) = false := by rw [beq_eq_false_iff_ne]; exact hp
      have n2 : (q == -1) = false := by rw [beq_eq_false_iff_ne]; exact hq
      obtain ⟨pn, hpn⟩ : ∃ n : Nat, p = (n : Int) := ⟨p.toNat, by omega⟩
      obtain ⟨qn, hqn⟩ : ∃ n : Nat, q = (n : Int) := ⟨q.toNat, by omega⟩
      have w1 : IntKind.i64.wrap (p * 16) = p * 16 := by rw [IntKind.wrap_i64]; omega
      have w2 : wrap64 (p * 16) = p * 16 := by unfold wrap64; omega
      have o1 : bits .or .i64 (p * 16) q = p * 16 + q := by rw [hpn, hqn]; exact or4 pn (by omega) qn (by omega)
      have HV : Hid (((UInt8.ofNat (p * 16 + q).toNat).toNat : Int) = p * 16 + q) := by
        show ((UInt8.ofNat (p * 16 + q).toNat).toNat : Int) = p * 16 + q
        rw [UInt8.toNat_ofNat']
        omega
      have E2 := Lib.hid e2
      have E3 := Lib.hid e3
      have E1 := Lib.hid e1
      clear NO YES r1 r2 hp hp' hq hq' hpn hqn e1 e2 e3
      refine wp_seq (wp_skip ?_)
      go_wp2_with (first
      | (go_at_call 27; refine TK.out.mono ?_; rintro e W1 ⟨rfl, rd1, gr1⟩; have TX1 := Lib.hid (TXX.out.step rd1 gr1 K2.out.1 K2.out.2.1); clear rd1 gr1 TK)
      | (go_at_call 27; refine (TK2 _ TX1.out.rd TX1.out.hk).mono ?_; rintro e W2 ⟨rfl, rd1, gr1⟩; have TX2 := Lib.hid (TX1.out.step rd1 gr1 K2.out.2.2.1 K2.out.2.2.2); clear rd1 gr1)
      | (go_at_call 39; refine (X1 _).mono ?_; rintro e w' ⟨rfl, rfl⟩; clear X1)
      | (go_at_call 39; refine (X2 _).mono ?_; rintro e w' ⟨rfl, rfl⟩))
      go_step3
      exact goes FrT.mk TX2.out ⟨UInt8.ofNat (p * 16 + q).toNat, by rw [HV.out], by have := TXX.out.len; have := E2.out; omega, by rw [HF.out, E3.out, LxM.app_map, E2.out]⟩ KO.out (by have := K2.out; have := E2.out; show _ + 2 < _ + 3; omega)
set_option maxRecDepth 20000 in
set_option maxHeartbeats 2000000 in
theorem t_pass1 {W0 : World} {g f : Nat} {s : ByteArray} {tv : Value} {rb k0 : Nat} {m : UInt8} (hs : s.size ≤ 16384) (a : Act) (w : World) (h : JT W0 g f s tv rb k0 m 1 a w) : ∃ rest, findLabel codeT 1 = some rest ∧ rest.wp Tryd.prog (passT W0 g f s tv rb k0 m 1 a w) a w := by
  refine ⟨_, rfl, ?_⟩
  obtain ⟨b, hi, lo, dv, k, acc, ⟨u10, u11, u12, u13, u14, u15, u16, u17, u18, u19, u20, u21, u22, u23, u24, u25, u26, u27, u28, u29, u30, u31, u32, u33, u34, u35, u36, u37, u38, u39, u40, u41, u42, u43, u44, u45, u46, u47, u48, u49, u50, u51, u52, u53, u54, u55, u56, u57, u58, u59, u60, u61, rfl⟩, tx, hF⟩ := h
  have TXX := Lib.hid tx
  have HF := Lib.hid (show LxM.qt m (s.data.toList.drop k0) = some (acc, s.data.toList.drop k) from hF)
  obtain ⟨A, c, rfl, hn, hA, hr⟩ := Bs.of_own tx.own
  have kv := convert_bs (w := w) c hr
  have LN := Lib.hid (show acc.length ≤ 16384 from by have := tx.len; have := tx.hk; omega)
  have hd : decide ((acc.length : Int) ≤ 4096) = decide (acc.length ≤ 4096) := by rw [decide_eq_decide]; omega
  obtain ⟨n, en⟩ : ∃ n, acc.length = n := ⟨_, rfl⟩
  rw [en] at kv hd ⊢
  have EN := Lib.hid en
  clear tx hF hr hA hn en
  refine wp_seq (wp_skip ?_)
  go_wp2_with (first
    | (refine wpList_store_row rfl 31 (.tmp 4) (.tmp 57) rfl rb #[.int .i64 4, .string ⟨acc.toArray⟩, .int .i64 0, .int .i64 0] rfl rfl 31 _ TXX.out.res sizeT rfl (one4 _ _ _ _) ?_)
    | (refine wp_store_row 31 (.tmp 4) (.tmp 57) rfl rb #[.int .i64 4, .string ⟨acc.toArray⟩, .int .i64 0, .int .i64 0] rfl rfl 31 _ TXX.out.res sizeT rfl (one4 _ _ _ _) ?_))
  refine bodyPost_ret (res_row_tmp (P := Tryd.prog) (fn := Tryd.f34) (p := 4) (u := 5) (ty := 31) rfl _ _ rb 31 _ (0, 0) (.bool (decide (n ≤ 4096))) _ rfl rfl (setRow_heap' _ _ _ _ _ TXX.out.res) Tryd.underlying31 rfl sizeT) rfl ?_
  have hg := TXX.out.hg
  have hrb := TXX.out.hrb
  refine ⟨⟨4, acc, 0, 0⟩, _, k, rfl, rfl, Blk.grown TXX.out.rd (grown_row _ _ _) (by intro e; have := Option.some.inj e; omega), row_grown TXX.out.gr hrb, TXX.out.hk, TXX.out.h0, ?_⟩
  unfold LxM.tkQ LxM.qs Got
  rw [HF.out, ← EN.out]
  by_cases hl : acc.length ≤ 4096
  · simp [Option.filter, hl]
  · simp [Option.filter, hl]
set_option maxRecDepth 20000 in
set_option maxHeartbeats 2000000 in
theorem t_pass3 {W0 : World} {g f : Nat} {s : ByteArray} {tv : Value} {rb k0 : Nat} {m : UInt8} (hs : s.size ≤ 16384) (a : Act) (w : World) (h : JT W0 g f s tv rb k0 m 3 a w) : ∃ rest, findLabel codeT 3 = some rest ∧ rest.wp Tryd.prog (passT W0 g f s tv rb k0 m 3 a w) a w := by
  refine ⟨_, rfl, ?_⟩
  obtain ⟨b, hi, lo, dv, k, acc, ⟨u10, u11, u12, u13, u14, u15, u16, u17, u18, u19, u20, u21, u22, u23, u24, u25, u26, u27, u28, u29, u30, u31, u32, u33, u34, u35, u36, u37, u38, u39, u40, u41, u42, u43, u44, u45, u46, u47, u48, u49, u50, u51, u52, u53, u54, u55, u56, u57, u58, u59, u60, u61, rfl⟩, tx, hF⟩ := h
  have TXX := Lib.hid tx
  have HF := Lib.hid (show LxM.qt m (s.data.toList.drop k0) = none from hF)
  clear tx hF
  refine wp_seq (wp_skip ?_)
  go_wp2_with (first
    | (refine wpList_store_row rfl 31 (.tmp 4) (.tmp 61) rfl rb #[.int .i64 0, .string ⟨#[]⟩, .int .i64 0, .int .i64 0] rfl rfl 31 _ TXX.out.res sizeT rfl (one4 _ _ _ _) ?_)
    | (refine wp_store_row 31 (.tmp 4) (.tmp 61) rfl rb #[.int .i64 0, .string ⟨#[]⟩, .int .i64 0, .int .i64 0] rfl rfl 31 _ TXX.out.res sizeT rfl (one4 _ _ _ _) ?_))
  refine bodyPost_ret (res_row_tmp (P := Tryd.prog) (fn := Tryd.f34) (p := 4) (u := 5) (ty := 31) rfl _ _ rb 31 _ (0, 0) (.bool false) _ rfl rfl (setRow_heap' _ _ _ _ _ TXX.out.res) Tryd.underlying31 rfl sizeT) rfl ?_
  have hg := TXX.out.hg
  have hrb := TXX.out.hrb
  refine ⟨⟨0, [], 0, 0⟩, false, k, rfl, rfl, Blk.grown TXX.out.rd (grown_row _ _ _) (by intro e; have := Option.some.inj e; omega), row_grown TXX.out.gr hrb, TXX.out.hk, TXX.out.h0, ?_⟩
  unfold LxM.tkQ LxM.qs Got
  rw [HF.out]
  rfl
end Go.Proofs.YtikbgkndfmcfhaaDoor
