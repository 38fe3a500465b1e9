/- Package lex: between tokens: one case (printed by genlxr.py). -/
import Derived.Test.YtikbgkndfmcfhaaDoorLxRh
namespace Go.Proofs.YtikbgkndfmcfhaaDoor
open Go.RowKit
set_option linter.unusedVariables false
set_option maxRecDepth 20000 in
set_option maxHeartbeats 4000000 in
theorem pass0_bl {F : LxM.Ans} {W0 : World} {g tb : Nat} {s : ByteArray} (hs : s.size ≤ 16384) (a : Act) (w : World) (b ok : Value) (f k : Nat) (toks : List LxM.T) (tc : Array Value) (tv : Value) (c : UInt8) (hfr : FrR g tb b ok a) (ht : tc.size = 4) (rx : RX W0 g tb s f k toks tc tv w) (hF : F = (LxM.lexS s.size (s.data.toList.drop k)).pre toks) (hlt : k < s.size) (hc : s[k] = c) (hb : LxM.bl (LxM.i c) = true) : ∃ rest, restR = some rest ∧ findLabel codeR 0 = some (.seq .skip rest) ∧ rest.wp Tryd.prog (passR F W0 g tb s 0 a w) a w := by
  refine ⟨_, rfl, rfl, ?_⟩
  obtain ⟨U, rfl⟩ := hfr
  have RX0 := Lib.hid rx.from_
  have HF := Lib.hid hF
  have HT := Lib.hid ht
  have KO := Lib.hid rx.rd.kof
  have TK := Lib.hid (take_any _ g s k k tv RX0.out.rd rx.hk hs)
  have HD := Lib.hid (drop_cons s k hlt)
  rw [if_pos hlt, pk_in s k hlt] at TK
  rw [hc] at TK HD
  obtain ⟨c0, c1, c2, c3, f1, f2, f3⟩ := rx.rd.four
  have HL := Lib.hid hlt
  have PE := fun W1 (h : Rb W1 g s k (k + 1) tv) => peek_any W1 g s k (k + 1) tv h hlt hs
  have cb := c.toNat_lt
  have n1 : ((c.toNat : Int) == -1) = false := by rw [beq_eq_false_iff_ne]; intro e; omega
  have BL := fun W => bla_any (c.toNat : Int) W (by omega) (by omega)
  have LE := fun W => let_any (c.toNat : Int) W (by omega) (by omega)
  have DI := fun W => dig_any (c.toNat : Int) W (by omega) (by omega)
  rw [show LxM.bl (c.toNat : Int) = true from hb] at BL
  have FIN : Hid (FinR F s k (k + 1) toks tc (.int .i64 (c.toNat : Int)) ok 0) := by
    show FinR F s k (k + 1) toks tc (.int .i64 (c.toNat : Int)) ok 0
    show F = _; rw [HF.out, HD.out, lexS_blank _ _ _ hb]
  clear rx hF ht hlt hc cb hb
  go_wp2_with (first
    | (go_at_call 27; refine TK.out.mono ?_; rintro e W1 ⟨rfl, rd1, gr1⟩; have RX1 := Lib.hid (RX0.out.step rd1 gr1 (Nat.le_succ _) HL.out); clear rd1 gr1 TK)
    | (go_at_call 28; refine (BL _).mono ?_; rintro e w' ⟨rfl, rfl⟩)
    | (go_at_call 30; refine (LE _).mono ?_; rintro e w' ⟨rfl, rfl⟩)
    | (go_at_call 25; refine (DI _).mono ?_; rintro e w' ⟨rfl, rfl⟩)
    | (go_at_call 29; refine (PE _ RX1.out.rd).mono ?_; rintro e W2 ⟨rfl, sm⟩; have RX2 := Lib.hid (RX1.out.sm sm); clear sm))
  go_step3
  exact goesR FrR.mk HT.out RX1.out (FIN.out) KO.out (by have := HL.out; show _ + 1 < _ + 1; omega) (fun _ => RX0.out.len)
end Go.Proofs.YtikbgkndfmcfhaaDoor
