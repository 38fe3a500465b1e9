/- Package lex: remarks, words, numbers (printed by genlxr.py). -/
import Derived.Test.YtikbgkndfmcfhaaDoorLxQ
namespace Go.Proofs.YtikbgkndfmcfhaaDoor
open Go.RowKit
set_option linter.unusedVariables false
set_option maxRecDepth 20000 in
set_option maxHeartbeats 4000000 in
theorem r_pass2 {F : LxM.Ans} {W0 : World} {g tb : Nat} {s : ByteArray} (hs : s.size ≤ 16384) (a : Act) (w : World) (h : JR F W0 g tb s 2 a w) : ∃ rest, findLabel codeR 2 = some rest ∧ rest.wp Tryd.prog (passR F W0 g tb s 2 a w) a w := by
  refine ⟨_, rfl, ?_⟩
  obtain ⟨b, ok, f, k, toks, tc, tv, ⟨U, rfl⟩, ht, rx, hln, hF⟩ := h
  have hF : F = (LxM.lexT s.size (LxM.sk true (s.data.toList.drop k))).pre toks := hF
  have RX0 := Lib.hid rx
  have HT := Lib.hid ht
  have KO := Lib.hid rx.rd.kof
  have TK := Lib.hid (take_any _ g s f k tv rx.rd rx.hk hs)
  by_cases hlt : k < s.size
  · skip
    have HL := Lib.hid hlt
    obtain ⟨c, hp, hc⟩ : ∃ c : UInt8, pk s k = (c.toNat : Int) ∧ s.data.toList.drop k = c :: s.data.toList.drop (k + 1) := ⟨s[k], pk_in s k hlt, drop_cons s k hlt⟩
    rw [if_pos hlt, hp] at TK
    have HD := Lib.hid hc
    clear hp
    have n1 : ((c.toNat : Int) == -1) = false := by rw [beq_eq_false_iff_ne]; intro e; omega
    have n1' : ((c.toNat : Int) != -1) = true := by rw [bne_iff_ne]; intro e; omega
    by_cases P : c = 10
    · have n10 : ((c.toNat : Int) == 10) = true := by rw [P]; rfl
      have n10' : ((c.toNat : Int) != 10) = false := by rw [P]; rfl
      have FIN : Hid (FinR F s f (k + 1) toks tc (.int .i64 (c.toNat : Int)) ok 0) := by
        show F = _
        rw [hF, HD.out, LxM.sk, if_pos P]; rfl
      clear rx hF ht hlt hc P
      refine wp_seq (wp_skip ?_)
      go_wp2_with (go_at_call 27; refine TK.out.mono ?_; rintro e W1 ⟨rfl, rd1, gr1⟩; have RX1 := Lib.hid (RX0.out.step rd1 gr1 (Nat.le_succ _) HL.out); clear rd1 gr1 TK)
      go_step3
      exact goesR FrR.mk HT.out RX1.out FIN.out KO.out (by have := HL.out; show _ + 1 < _ + 2; omega) (fun h => absurd h (by decide))
    · have n10 : ((c.toNat : Int) == 10) = false := by rw [beq_eq_false_iff_ne]; intro e; exact P (UInt8.toNat_inj.1 (by have : (10 : UInt8).toNat = 10 := rfl; omega))
      have n10' : ((c.toNat : Int) != 10) = true := by rw [bne, n10]; rfl
      have FIN : Hid (FinR F s f (k + 1) toks tc (.int .i64 (c.toNat : Int)) ok 2) := by
        show F = _
        rw [hF, HD.out, LxM.sk, if_neg P]
      clear rx hF ht hlt hc P
      refine wp_seq (wp_skip ?_)
      go_wp2_with (go_at_call 27; refine TK.out.mono ?_; rintro e W1 ⟨rfl, rd1, gr1⟩; have RX1 := Lib.hid (RX0.out.step rd1 gr1 (Nat.le_succ _) HL.out); clear rd1 gr1 TK)
      go_step3
      exact goesR FrR.mk HT.out RX1.out FIN.out KO.out (by have := HL.out; show _ + 2 < _ + 2; omega) (fun h => absurd h (by decide))
  · rw [if_neg hlt, pk_end s k (by omega)] at TK
    have FIN : Hid (FinR F s f k toks tc (.int .i64 (-1)) ok 0) := by
      show F = _
      rw [hF, drop_none s k (by omega)]; rfl
    have HK := Lib.hid rx.hk
    clear rx hF ht hlt
    refine wp_seq (wp_skip ?_)
    go_wp2_with (go_at_call 27; refine TK.out.mono ?_; rintro e W1 ⟨rfl, rd1, gr1⟩; have RX1 := Lib.hid (RX0.out.step rd1 gr1 (Nat.le_refl _) HK.out); clear rd1 gr1 TK)
    go_step3
    exact goesR FrR.mk HT.out RX1.out FIN.out KO.out (by show _ + 1 < _ + 2; omega) (fun h => absurd h (by decide))
end Go.Proofs.YtikbgkndfmcfhaaDoor
