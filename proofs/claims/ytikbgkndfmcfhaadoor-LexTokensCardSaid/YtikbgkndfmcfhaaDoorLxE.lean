/- Package lex: the text between marks: behind a \\ (printed by genlxt.py). -/
import Derived.Test.YtikbgkndfmcfhaaDoorLxT
namespace Go.Proofs.YtikbgkndfmcfhaaDoor
open Go.RowKit
set_option linter.unusedVariables false
theorem pure_t_esc_110 {m c : UInt8} {acc L0 L L1 : List UInt8} (HF : Hid (LxM.qt m L0 = LxM.app acc (LxM.esc m L))) (HD : Hid (L = c :: L1))  (P : c = 110) : LxM.qt m L0 = LxM.app (acc ++ [10]) (LxM.qt m L1) := by
  rw [HF.out, HD.out, LxM.esc, if_pos P, LxM.app_map]
set_option maxRecDepth 20000 in
set_option maxHeartbeats 2000000 in
theorem t_esc_110 {W0 : World} {g f : Nat} {s : ByteArray} {tv : Value} {rb k0 : Nat} {m c : UInt8} (hs : s.size ≤ 16384) (a : Act) (w : World) (b hi lo dv : Value) (k : Nat) (acc : List UInt8) (hfr : FrT g m rb b hi lo dv a) (tx : TX W0 g f s tv rb k0 k acc dv w) (hF : LxM.qt m (s.data.toList.drop k0) = LxM.app acc (LxM.esc m (s.data.toList.drop k))) (hlt : k < s.size) (hc : s[k] = c)  (P : c = 110) : ∃ rest, findLabel codeT 2 = some rest ∧ rest.wp Tryd.prog (passT W0 g f s tv rb k0 m 2 a w) a w := by
  refine ⟨_, rfl, ?_⟩
  obtain ⟨u10, u11, u12, u13, u14, u15, u16, u17, u18, u19, u20, u21, u22, u23, u24, u25, u26, u27, u28, u29, u30, u31, u32, u33, u34, u35, u36, u37, u38, u39, u40, u41, u42, u43, u44, u45, u46, u47, u48, u49, u50, u51, u52, u53, u54, u55, u56, u57, u58, u59, u60, u61, rfl⟩ := hfr
  have TXX := Lib.hid tx
  have HF := Lib.hid hF
  have KO := Lib.hid tx.rd.kof
  have TK := Lib.hid (take_any w g s f k tv tx.rd tx.hk hs)
  have HD := Lib.hid (drop_cons s k hlt)
  rw [if_pos hlt, pk_in s k hlt] at TK
  rw [hc] at TK HD
  have HL := Lib.hid hlt
  have FIN := Lib.hid (pure_t_esc_110 HF HD  P)
  have pp : ((c.toNat : Int) == 110) = true := by rw [P]; rfl
  clear tx hF hc hlt  P
  refine wp_seq (wp_skip ?_)
  go_wp2_with (go_at_call 27; refine TK.out.mono ?_; rintro e W1 ⟨rfl, rd1, gr1⟩; have TX1 := Lib.hid (TXX.out.step rd1 gr1 (Nat.le_succ _) HL.out); clear rd1 gr1)
  go_step3
  exact goes FrT.mk TX1.out (⟨10, rfl, by have := TXX.out.len; omega, FIN.out⟩) KO.out (by have := HL.out; show _ + 2 < _ + 3; omega)
theorem pure_t_esc_116 {m c : UInt8} {acc L0 L L1 : List UInt8} (HF : Hid (LxM.qt m L0 = LxM.app acc (LxM.esc m L))) (HD : Hid (L = c :: L1)) (N110 : ¬ c = 110) (P : c = 116) : LxM.qt m L0 = LxM.app (acc ++ [9]) (LxM.qt m L1) := by
  rw [HF.out, HD.out, LxM.esc, if_neg N110, if_pos P, LxM.app_map]
set_option maxRecDepth 20000 in
set_option maxHeartbeats 2000000 in
theorem t_esc_116 {W0 : World} {g f : Nat} {s : ByteArray} {tv : Value} {rb k0 : Nat} {m c : UInt8} (hs : s.size ≤ 16384) (a : Act) (w : World) (b hi lo dv : Value) (k : Nat) (acc : List UInt8) (hfr : FrT g m rb b hi lo dv a) (tx : TX W0 g f s tv rb k0 k acc dv w) (hF : LxM.qt m (s.data.toList.drop k0) = LxM.app acc (LxM.esc m (s.data.toList.drop k))) (hlt : k < s.size) (hc : s[k] = c) (N110 : ¬ c = 110) (P : c = 116) : ∃ rest, findLabel codeT 2 = some rest ∧ rest.wp Tryd.prog (passT W0 g f s tv rb k0 m 2 a w) a w := by
  refine ⟨_, rfl, ?_⟩
  obtain ⟨u10, u11, u12, u13, u14, u15, u16, u17, u18, u19, u20, u21, u22, u23, u24, u25, u26, u27, u28, u29, u30, u31, u32, u33, u34, u35, u36, u37, u38, u39, u40, u41, u42, u43, u44, u45, u46, u47, u48, u49, u50, u51, u52, u53, u54, u55, u56, u57, u58, u59, u60, u61, rfl⟩ := hfr
  have TXX := Lib.hid tx
  have HF := Lib.hid hF
  have KO := Lib.hid tx.rd.kof
  have TK := Lib.hid (take_any w g s f k tv tx.rd tx.hk hs)
  have HD := Lib.hid (drop_cons s k hlt)
  rw [if_pos hlt, pk_in s k hlt] at TK
  rw [hc] at TK HD
  have HL := Lib.hid hlt
  have FIN := Lib.hid (pure_t_esc_116 HF HD N110 P)
  have n110 : ((c.toNat : Int) == 110) = false := by rw [beq_eq_false_iff_ne]; intro e; exact N110 (UInt8.toNat_inj.1 (by have : (110 : UInt8).toNat = 110 := rfl; omega))
  have pp : ((c.toNat : Int) == 116) = true := by rw [P]; rfl
  clear tx hF hc hlt N110 P
  refine wp_seq (wp_skip ?_)
  go_wp2_with (go_at_call 27; refine TK.out.mono ?_; rintro e W1 ⟨rfl, rd1, gr1⟩; have TX1 := Lib.hid (TXX.out.step rd1 gr1 (Nat.le_succ _) HL.out); clear rd1 gr1)
  go_step3
  exact goes FrT.mk TX1.out (⟨9, rfl, by have := TXX.out.len; omega, FIN.out⟩) KO.out (by have := HL.out; show _ + 2 < _ + 3; omega)
theorem pure_t_esc_92 {m c : UInt8} {acc L0 L L1 : List UInt8} (HF : Hid (LxM.qt m L0 = LxM.app acc (LxM.esc m L))) (HD : Hid (L = c :: L1)) (N110 : ¬ c = 110) (N116 : ¬ c = 116) (P : c = 92) : LxM.qt m L0 = LxM.app (acc ++ [c]) (LxM.qt m L1) := by
  rw [HF.out, HD.out, LxM.esc, if_neg N110, if_neg N116, if_pos (.inl P), LxM.app_map]
set_option maxRecDepth 20000 in
set_option maxHeartbeats 2000000 in
theorem t_esc_92 {W0 : World} {g f : Nat} {s : ByteArray} {tv : Value} {rb k0 : Nat} {m c : UInt8} (hs : s.size ≤ 16384) (a : Act) (w : World) (b hi lo dv : Value) (k : Nat) (acc : List UInt8) (hfr : FrT g m rb b hi lo dv a) (tx : TX W0 g f s tv rb k0 k acc dv w) (hF : LxM.qt m (s.data.toList.drop k0) = LxM.app acc (LxM.esc m (s.data.toList.drop k))) (hlt : k < s.size) (hc : s[k] = c) (N110 : ¬ c = 110) (N116 : ¬ c = 116) (P : c = 92) : ∃ rest, findLabel codeT 2 = some rest ∧ rest.wp Tryd.prog (passT W0 g f s tv rb k0 m 2 a w) a w := by
  refine ⟨_, rfl, ?_⟩
  obtain ⟨u10, u11, u12, u13, u14, u15, u16, u17, u18, u19, u20, u21, u22, u23, u24, u25, u26, u27, u28, u29, u30, u31, u32, u33, u34, u35, u36, u37, u38, u39, u40, u41, u42, u43, u44, u45, u46, u47, u48, u49, u50, u51, u52, u53, u54, u55, u56, u57, u58, u59, u60, u61, rfl⟩ := hfr
  have TXX := Lib.hid tx
  have HF := Lib.hid hF
  have KO := Lib.hid tx.rd.kof
  have TK := Lib.hid (take_any w g s f k tv tx.rd tx.hk hs)
  have HD := Lib.hid (drop_cons s k hlt)
  rw [if_pos hlt, pk_in s k hlt] at TK
  rw [hc] at TK HD
  have HL := Lib.hid hlt
  have FIN := Lib.hid (pure_t_esc_92 HF HD N110 N116 P)
  have n110 : ((c.toNat : Int) == 110) = false := by rw [beq_eq_false_iff_ne]; intro e; exact N110 (UInt8.toNat_inj.1 (by have : (110 : UInt8).toNat = 110 := rfl; omega))
  have n116 : ((c.toNat : Int) == 116) = false := by rw [beq_eq_false_iff_ne]; intro e; exact N116 (UInt8.toNat_inj.1 (by have : (116 : UInt8).toNat = 116 := rfl; omega))
  have pp : ((c.toNat : Int) == 92) = true := by rw [P]; rfl
  clear tx hF hc hlt N110 N116 P
  refine wp_seq (wp_skip ?_)
  go_wp2_with (go_at_call 27; refine TK.out.mono ?_; rintro e W1 ⟨rfl, rd1, gr1⟩; have TX1 := Lib.hid (TXX.out.step rd1 gr1 (Nat.le_succ _) HL.out); clear rd1 gr1)
  go_step3
  exact goes FrT.mk TX1.out (⟨c, rfl, by have := TXX.out.len; omega, FIN.out⟩) KO.out (by have := HL.out; show _ + 2 < _ + 3; omega)
theorem pure_t_esc_34 {m c : UInt8} {acc L0 L L1 : List UInt8} (HF : Hid (LxM.qt m L0 = LxM.app acc (LxM.esc m L))) (HD : Hid (L = c :: L1)) (N110 : ¬ c = 110) (N116 : ¬ c = 116) (N92 : ¬ c = 92) (P : c = 34) : LxM.qt m L0 = LxM.app (acc ++ [c]) (LxM.qt m L1) := by
  rw [HF.out, HD.out, LxM.esc, if_neg N110, if_neg N116, if_pos (.inr (.inl P)), LxM.app_map]
set_option maxRecDepth 20000 in
set_option maxHeartbeats 2000000 in
theorem t_esc_34 {W0 : World} {g f : Nat} {s : ByteArray} {tv : Value} {rb k0 : Nat} {m c : UInt8} (hs : s.size ≤ 16384) (a : Act) (w : World) (b hi lo dv : Value) (k : Nat) (acc : List UInt8) (hfr : FrT g m rb b hi lo dv a) (tx : TX W0 g f s tv rb k0 k acc dv w) (hF : LxM.qt m (s.data.toList.drop k0) = LxM.app acc (LxM.esc m (s.data.toList.drop k))) (hlt : k < s.size) (hc : s[k] = c) (N110 : ¬ c = 110) (N116 : ¬ c = 116) (N92 : ¬ c = 92) (P : c = 34) : ∃ rest, findLabel codeT 2 = some rest ∧ rest.wp Tryd.prog (passT W0 g f s tv rb k0 m 2 a w) a w := by
  refine ⟨_, rfl, ?_⟩
  obtain ⟨u10, u11, u12, u13, u14, u15, u16, u17, u18, u19, u20, u21, u22, u23, u24, u25, u26, u27, u28, u29, u30, u31, u32, u33, u34, u35, u36, u37, u38, u39, u40, u41, u42, u43, u44, u45, u46, u47, u48, u49, u50, u51, u52, u53, u54, u55, u56, u57, u58, u59, u60, u61, rfl⟩ := hfr
  have TXX := Lib.hid tx
  have HF := Lib.hid hF
  have KO := Lib.hid tx.rd.kof
  have TK := Lib.hid (take_any w g s f k tv tx.rd tx.hk hs)
  have HD := Lib.hid (drop_cons s k hlt)
  rw [if_pos hlt, pk_in s k hlt] at TK
  rw [hc] at TK HD
  have HL := Lib.hid hlt
  have FIN := Lib.hid (pure_t_esc_34 HF HD N110 N116 N92 P)
  have n110 : ((c.toNat : Int) == 110) = false := by rw [beq_eq_false_iff_ne]; intro e; exact N110 (UInt8.toNat_inj.1 (by have : (110 : UInt8).toNat = 110 := rfl; omega))
  have n116 : ((c.toNat : Int) == 116) = false := by rw [beq_eq_false_iff_ne]; intro e; exact N116 (UInt8.toNat_inj.1 (by have : (116 : UInt8).toNat = 116 := rfl; omega))
  have n92 : ((c.toNat : Int) == 92) = false := by rw [beq_eq_false_iff_ne]; intro e; exact N92 (UInt8.toNat_inj.1 (by have : (92 : UInt8).toNat = 92 := rfl; omega))
  have pp : ((c.toNat : Int) == 34) = true := by rw [P]; rfl
  clear tx hF hc hlt N110 N116 N92 P
  refine wp_seq (wp_skip ?_)
  go_wp2_with (go_at_call 27; refine TK.out.mono ?_; rintro e W1 ⟨rfl, rd1, gr1⟩; have TX1 := Lib.hid (TXX.out.step rd1 gr1 (Nat.le_succ _) HL.out); clear rd1 gr1)
  go_step3
  exact goes FrT.mk TX1.out (⟨c, rfl, by have := TXX.out.len; omega, FIN.out⟩) KO.out (by have := HL.out; show _ + 2 < _ + 3; omega)
theorem pure_t_esc_39 {m c : UInt8} {acc L0 L L1 : List UInt8} (HF : Hid (LxM.qt m L0 = LxM.app acc (LxM.esc m L))) (HD : Hid (L = c :: L1)) (N110 : ¬ c = 110) (N116 : ¬ c = 116) (N92 : ¬ c = 92) (N34 : ¬ c = 34) (P : c = 39) : LxM.qt m L0 = LxM.app (acc ++ [c]) (LxM.qt m L1) := by
  rw [HF.out, HD.out, LxM.esc, if_neg N110, if_neg N116, if_pos (.inr (.inr P)), LxM.app_map]
set_option maxRecDepth 20000 in
set_option maxHeartbeats 2000000 in
theorem t_esc_39 {W0 : World} {g f : Nat} {s : ByteArray} {tv : Value} {rb k0 : Nat} {m c : UInt8} (hs : s.size ≤ 16384) (a : Act) (w : World) (b hi lo dv : Value) (k : Nat) (acc : List UInt8) (hfr : FrT g m rb b hi lo dv a) (tx : TX W0 g f s tv rb k0 k acc dv w) (hF : LxM.qt m (s.data.toList.drop k0) = LxM.app acc (LxM.esc m (s.data.toList.drop k))) (hlt : k < s.size) (hc : s[k] = c) (N110 : ¬ c = 110) (N116 : ¬ c = 116) (N92 : ¬ c = 92) (N34 : ¬ c = 34) (P : c = 39) : ∃ rest, findLabel codeT 2 = some rest ∧ rest.wp Tryd.prog (passT W0 g f s tv rb k0 m 2 a w) a w := by
  refine ⟨_, rfl, ?_⟩
  obtain ⟨u10, u11, u12, u13, u14, u15, u16, u17, u18, u19, u20, u21, u22, u23, u24, u25, u26, u27, u28, u29, u30, u31, u32, u33, u34, u35, u36, u37, u38, u39, u40, u41, u42, u43, u44, u45, u46, u47, u48, u49, u50, u51, u52, u53, u54, u55, u56, u57, u58, u59, u60, u61, rfl⟩ := hfr
  have TXX := Lib.hid tx
  have HF := Lib.hid hF
  have KO := Lib.hid tx.rd.kof
  have TK := Lib.hid (take_any w g s f k tv tx.rd tx.hk hs)
  have HD := Lib.hid (drop_cons s k hlt)
  rw [if_pos hlt, pk_in s k hlt] at TK
  rw [hc] at TK HD
  have HL := Lib.hid hlt
  have FIN := Lib.hid (pure_t_esc_39 HF HD N110 N116 N92 N34 P)
  have n110 : ((c.toNat : Int) == 110) = false := by rw [beq_eq_false_iff_ne]; intro e; exact N110 (UInt8.toNat_inj.1 (by have : (110 : UInt8).toNat = 110 := rfl; omega))
  have n116 : ((c.toNat : Int) == 116) = false := by rw [beq_eq_false_iff_ne]; intro e; exact N116 (UInt8.toNat_inj.1 (by have : (116 : UInt8).toNat = 116 := rfl; omega))
  have n92 : ((c.toNat : Int) == 92) = false := by rw [beq_eq_false_iff_ne]; intro e; exact N92 (UInt8.toNat_inj.1 (by have : (92 : UInt8).toNat = 92 := rfl; omega))
  have n34 : ((c.toNat : Int) == 34) = false := by rw [beq_eq_false_iff_ne]; intro e; exact N34 (UInt8.toNat_inj.1 (by have : (34 : UInt8).toNat = 34 := rfl; omega))
  have pp : ((c.toNat : Int) == 39) = true := by rw [P]; rfl
  clear tx hF hc hlt N110 N116 N92 N34 P
  refine wp_seq (wp_skip ?_)
  go_wp2_with (go_at_call 27; refine TK.out.mono ?_; rintro e W1 ⟨rfl, rd1, gr1⟩; have TX1 := Lib.hid (TXX.out.step rd1 gr1 (Nat.le_succ _) HL.out); clear rd1 gr1)
  go_step3
  exact goes FrT.mk TX1.out (⟨c, rfl, by have := TXX.out.len; omega, FIN.out⟩) KO.out (by have := HL.out; show _ + 2 < _ + 3; omega)
theorem pure_t_esc_120 {m c : UInt8} {acc L0 L L1 : List UInt8} (HF : Hid (LxM.qt m L0 = LxM.app acc (LxM.esc m L))) (HD : Hid (L = c :: L1)) (N110 : ¬ c = 110) (N116 : ¬ c = 116) (N92 : ¬ c = 92) (N34 : ¬ c = 34) (N39 : ¬ c = 39) (P : c = 120) : LxM.qt m L0 = LxM.app acc (LxM.hexq m L1) := by
  rw [HF.out, HD.out, LxM.esc, if_neg N110, if_neg N116, if_neg (by rintro (h | h | h) <;> contradiction), if_pos P]
set_option maxRecDepth 20000 in
set_option maxHeartbeats 2000000 in
theorem t_esc_120 {W0 : World} {g f : Nat} {s : ByteArray} {tv : Value} {rb k0 : Nat} {m c : UInt8} (hs : s.size ≤ 16384) (a : Act) (w : World) (b hi lo dv : Value) (k : Nat) (acc : List UInt8) (hfr : FrT g m rb b hi lo dv a) (tx : TX W0 g f s tv rb k0 k acc dv w) (hF : LxM.qt m (s.data.toList.drop k0) = LxM.app acc (LxM.esc m (s.data.toList.drop k))) (hlt : k < s.size) (hc : s[k] = c) (N110 : ¬ c = 110) (N116 : ¬ c = 116) (N92 : ¬ c = 92) (N34 : ¬ c = 34) (N39 : ¬ c = 39) (P : c = 120) : ∃ rest, findLabel codeT 2 = some rest ∧ rest.wp Tryd.prog (passT W0 g f s tv rb k0 m 2 a w) a w := by
  refine ⟨_, rfl, ?_⟩
  obtain ⟨u10, u11, u12, u13, u14, u15, u16, u17, u18, u19, u20, u21, u22, u23, u24, u25, u26, u27, u28, u29, u30, u31, u32, u33, u34, u35, u36, u37, u38, u39, u40, u41, u42, u43, u44, u45, u46, u47, u48, u49, u50, u51, u52, u53, u54, u55, u56, u57, u58, u59, u60, u61, rfl⟩ := hfr
  have TXX := Lib.hid tx
  have HF := Lib.hid hF
  have KO := Lib.hid tx.rd.kof
  have TK := Lib.hid (take_any w g s f k tv tx.rd tx.hk hs)
  have HD := Lib.hid (drop_cons s k hlt)
  rw [if_pos hlt, pk_in s k hlt] at TK
  rw [hc] at TK HD
  have HL := Lib.hid hlt
  have FIN := Lib.hid (pure_t_esc_120 HF HD N110 N116 N92 N34 N39 P)
  have n110 : ((c.toNat : Int) == 110) = false := by rw [beq_eq_false_iff_ne]; intro e; exact N110 (UInt8.toNat_inj.1 (by have : (110 : UInt8).toNat = 110 := rfl; omega))
  have n116 : ((c.toNat : Int) == 116) = false := by rw [beq_eq_false_iff_ne]; intro e; exact N116 (UInt8.toNat_inj.1 (by have : (116 : UInt8).toNat = 116 := rfl; omega))
  have n92 : ((c.toNat : Int) == 92) = false := by rw [beq_eq_false_iff_ne]; intro e; exact N92 (UInt8.toNat_inj.1 (by have : (92 : UInt8).toNat = 92 := rfl; omega))
  have n34 : ((c.toNat : Int) == 34) = false := by rw [beq_eq_false_iff_ne]; intro e; exact N34 (UInt8.toNat_inj.1 (by have : (34 : UInt8).toNat = 34 := rfl; omega))
  have n39 : ((c.toNat : Int) == 39) = false := by rw [beq_eq_false_iff_ne]; intro e; exact N39 (UInt8.toNat_inj.1 (by have : (39 : UInt8).toNat = 39 := rfl; omega))
  have pp : ((c.toNat : Int) == 120) = true := by rw [P]; rfl
  clear tx hF hc hlt N110 N116 N92 N34 N39 P
  refine wp_seq (wp_skip ?_)
  go_wp2_with (go_at_call 27; refine TK.out.mono ?_; rintro e W1 ⟨rfl, rd1, gr1⟩; have TX1 := Lib.hid (TXX.out.step rd1 gr1 (Nat.le_succ _) HL.out); clear rd1 gr1)
  go_step3
  exact goes FrT.mk TX1.out (FIN.out) KO.out (by have := HL.out; show _ + 3 < _ + 3; omega)
theorem pure_t_esc_no {m c : UInt8} {acc L0 L L1 : List UInt8} (HF : Hid (LxM.qt m L0 = LxM.app acc (LxM.esc m L))) (HD : Hid (L = c :: L1)) (N110 : ¬ c = 110) (N116 : ¬ c = 116) (N92 : ¬ c = 92) (N34 : ¬ c = 34) (N39 : ¬ c = 39) (N120 : ¬ c = 120)  : LxM.qt m L0 = none := by
  rw [HF.out, HD.out, LxM.esc, if_neg N110, if_neg N116, if_neg (by rintro (h | h | h) <;> contradiction), if_neg N120]; rfl
set_option maxRecDepth 20000 in
set_option maxHeartbeats 2000000 in
theorem t_esc_no {W0 : World} {g f : Nat} {s : ByteArray} {tv : Value} {rb k0 : Nat} {m c : UInt8} (hs : s.size ≤ 16384) (a : Act) (w : World) (b hi lo dv : Value) (k : Nat) (acc : List UInt8) (hfr : FrT g m rb b hi lo dv a) (tx : TX W0 g f s tv rb k0 k acc dv w) (hF : LxM.qt m (s.data.toList.drop k0) = LxM.app acc (LxM.esc m (s.data.toList.drop k))) (hlt : k < s.size) (hc : s[k] = c) (N110 : ¬ c = 110) (N116 : ¬ c = 116) (N92 : ¬ c = 92) (N34 : ¬ c = 34) (N39 : ¬ c = 39) (N120 : ¬ c = 120)  : ∃ rest, findLabel codeT 2 = some rest ∧ rest.wp Tryd.prog (passT W0 g f s tv rb k0 m 2 a w) a w := by
  refine ⟨_, rfl, ?_⟩
  obtain ⟨u10, u11, u12, u13, u14, u15, u16, u17, u18, u19, u20, u21, u22, u23, u24, u25, u26, u27, u28, u29, u30, u31, u32, u33, u34, u35, u36, u37, u38, u39, u40, u41, u42, u43, u44, u45, u46, u47, u48, u49, u50, u51, u52, u53, u54, u55, u56, u57, u58, u59, u60, u61, rfl⟩ := hfr
  have TXX := Lib.hid tx
  have HF := Lib.hid hF
  have KO := Lib.hid tx.rd.kof
  have TK := Lib.hid (take_any w g s f k tv tx.rd tx.hk hs)
  have HD := Lib.hid (drop_cons s k hlt)
  rw [if_pos hlt, pk_in s k hlt] at TK
  rw [hc] at TK HD
  have HL := Lib.hid hlt
  have FIN := Lib.hid (pure_t_esc_no HF HD N110 N116 N92 N34 N39 N120)
  have n110 : ((c.toNat : Int) == 110) = false := by rw [beq_eq_false_iff_ne]; intro e; exact N110 (UInt8.toNat_inj.1 (by have : (110 : UInt8).toNat = 110 := rfl; omega))
  have n116 : ((c.toNat : Int) == 116) = false := by rw [beq_eq_false_iff_ne]; intro e; exact N116 (UInt8.toNat_inj.1 (by have : (116 : UInt8).toNat = 116 := rfl; omega))
  have n92 : ((c.toNat : Int) == 92) = false := by rw [beq_eq_false_iff_ne]; intro e; exact N92 (UInt8.toNat_inj.1 (by have : (92 : UInt8).toNat = 92 := rfl; omega))
  have n34 : ((c.toNat : Int) == 34) = false := by rw [beq_eq_false_iff_ne]; intro e; exact N34 (UInt8.toNat_inj.1 (by have : (34 : UInt8).toNat = 34 := rfl; omega))
  have n39 : ((c.toNat : Int) == 39) = false := by rw [beq_eq_false_iff_ne]; intro e; exact N39 (UInt8.toNat_inj.1 (by have : (39 : UInt8).toNat = 39 := rfl; omega))
  have n120 : ((c.toNat : Int) == 120) = false := by rw [beq_eq_false_iff_ne]; intro e; exact N120 (UInt8.toNat_inj.1 (by have : (120 : UInt8).toNat = 120 := rfl; omega))
  clear tx hF hc hlt N110 N116 N92 N34 N39 N120
  refine wp_seq (wp_skip ?_)
  go_wp2_with (go_at_call 27; refine TK.out.mono ?_; rintro e W1 ⟨rfl, rd1, gr1⟩; have TX1 := Lib.hid (TXX.out.step rd1 gr1 (Nat.le_succ _) HL.out); clear rd1 gr1)
  go_step3
  exact goes FrT.mk TX1.out (FIN.out) KO.out (by have := HL.out; show _ + 0 < _ + 3; omega)
set_option maxRecDepth 20000 in
set_option maxHeartbeats 2000000 in
theorem t_esc_end {W0 : World} {g f : Nat} {s : ByteArray} {tv : Value} {rb k0 : Nat} {m : UInt8} (hs : s.size ≤ 16384) (a : Act) (w : World) (b hi lo dv : Value) (k : Nat) (acc : List UInt8) (hfr : FrT g m rb b hi lo dv a) (tx : TX W0 g f s tv rb k0 k acc dv w) (hF : LxM.qt m (s.data.toList.drop k0) = LxM.app acc (LxM.esc m (s.data.toList.drop k))) (hlt : ¬ k < s.size) : ∃ rest, findLabel codeT 2 = some rest ∧ rest.wp Tryd.prog (passT W0 g f s tv rb k0 m 2 a w) a w := by
  refine ⟨_, rfl, ?_⟩
  obtain ⟨u10, u11, u12, u13, u14, u15, u16, u17, u18, u19, u20, u21, u22, u23, u24, u25, u26, u27, u28, u29, u30, u31, u32, u33, u34, u35, u36, u37, u38, u39, u40, u41, u42, u43, u44, u45, u46, u47, u48, u49, u50, u51, u52, u53, u54, u55, u56, u57, u58, u59, u60, u61, rfl⟩ := hfr
  have TXX := Lib.hid tx
  have KO := Lib.hid tx.rd.kof
  have TK := Lib.hid (take_any w g s f k tv tx.rd tx.hk hs)
  have FIN : Hid (LxM.qt m (s.data.toList.drop k0) = none) := by
    show LxM.qt m (s.data.toList.drop k0) = none
    rw [hF, drop_none s k (by omega)]; rfl
  rw [if_neg hlt, pk_end s k (by omega)] at TK
  clear tx hF hlt
  refine wp_seq (wp_skip ?_)
  go_wp2_with (go_at_call 27; refine TK.out.mono ?_; rintro e W1 ⟨rfl, rd1, gr1⟩)
  go_step3
  exact goes FrT.mk (TXX.out.step rd1 gr1 (Nat.le_refl _) TXX.out.hk) FIN.out KO.out (by show _ + 0 < _ + 3; omega)
theorem t_pass2 {W0 : World} {g f : Nat} {s : ByteArray} {tv : Value} {rb k0 : Nat} {m : UInt8} (hs : s.size ≤ 16384) (a : Act) (w : World) (h : JT W0 g f s tv rb k0 m 2 a w) : ∃ rest, findLabel codeT 2 = some rest ∧ rest.wp Tryd.prog (passT W0 g f s tv rb k0 m 2 a w) a w := by
  obtain ⟨b, hi, lo, dv, k, acc, hfr, tx, hF⟩ := h
  by_cases hlt : k < s.size
  · obtain ⟨c, hc⟩ : ∃ c, s[k] = c := ⟨_, rfl⟩
    by_cases N110 : c = 110
    · exact t_esc_110 hs a w b hi lo dv k acc hfr tx hF hlt hc  N110
    by_cases N116 : c = 116
    · exact t_esc_116 hs a w b hi lo dv k acc hfr tx hF hlt hc N110 N116
    by_cases N92 : c = 92
    · exact t_esc_92 hs a w b hi lo dv k acc hfr tx hF hlt hc N110 N116 N92
    by_cases N34 : c = 34
    · exact t_esc_34 hs a w b hi lo dv k acc hfr tx hF hlt hc N110 N116 N92 N34
    by_cases N39 : c = 39
    · exact t_esc_39 hs a w b hi lo dv k acc hfr tx hF hlt hc N110 N116 N92 N34 N39
    by_cases N120 : c = 120
    · exact t_esc_120 hs a w b hi lo dv k acc hfr tx hF hlt hc N110 N116 N92 N34 N39 N120
    exact t_esc_no hs a w b hi lo dv k acc hfr tx hF hlt hc N110 N116 N92 N34 N39 N120
  · exact t_esc_end hs a w b hi lo dv k acc hfr tx hF hlt
end Go.Proofs.YtikbgkndfmcfhaaDoor
