/- Package lex: between tokens: one case (printed by genlxr.py). -/
import Derived.Test.YtikbgkndfmcfhaaDoorLxRh
namespace Go.Proofs.YtikbgkndfmcfhaaDoor
open Go.RowKit
set_option linter.unusedVariables false
set_option maxRecDepth 20000 in
set_option maxHeartbeats 4000000 in
theorem pass0_end {F : LxM.Ans} {W0 : World} {g tb : Nat} {s : ByteArray} (hs : s.size ≤ 16384) (a : Act) (w : World) (b ok : Value) (f k : Nat) (toks : List LxM.T) (tc : Array Value) (tv : Value) (hfr : FrR g tb b ok a) (ht : tc.size = 4) (rx : RX W0 g tb s f k toks tc tv w) (hF : F = (LxM.lexS s.size (s.data.toList.drop k)).pre toks) (hlt : ¬ k < s.size) : ∃ rest, restR = some rest ∧ findLabel codeR 0 = some (.seq .skip rest) ∧ rest.wp Tryd.prog (passR F W0 g tb s 0 a w) a w := by
  refine ⟨_, rfl, rfl, ?_⟩
  obtain ⟨U, rfl⟩ := hfr
  have ek : k = s.size := by have := rx.hk; omega
  have RX0 := Lib.hid rx.from_
  have HT := Lib.hid ht
  have KO := Lib.hid rx.rd.kof
  have TK := Lib.hid (take_any _ g s k k tv RX0.out.rd rx.hk hs)
  rw [if_neg hlt, pk_end s k (by omega)] at TK
  obtain ⟨c0, c1, c2, c3, f1, f2, f3⟩ := rx.rd.four
  have FIN : Hid (FinR F s k k toks tc (.int .i64 (-1)) ok 1) := by
    show k = s.size ∧ F = _
    refine ⟨ek, ?_⟩
    rw [hF, drop_none s k (by omega)]
    unfold LxM.lexS
    rw [LxM.sk, LxM.lexT_nil]
    rfl
  have HK := Lib.hid rx.hk
  clear rx hF ht hlt ek
  go_wp2_with (go_at_call 27; refine TK.out.mono ?_; rintro e W1 ⟨rfl, rd1, gr1⟩; have RX1 := Lib.hid (RX0.out.step rd1 gr1 (Nat.le_refl _) HK.out); clear rd1 gr1 TK)
  go_step3
  exact goesR FrR.mk HT.out RX1.out FIN.out KO.out (by show _ + 0 < _ + 1; omega) (fun _ => RX0.out.len)
end Go.Proofs.YtikbgkndfmcfhaaDoor
