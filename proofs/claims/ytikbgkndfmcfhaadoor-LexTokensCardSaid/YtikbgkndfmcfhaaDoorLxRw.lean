/- Package lex: words (printed by genlxr.py). -/
import Derived.Test.YtikbgkndfmcfhaaDoorLxQ
namespace Go.Proofs.YtikbgkndfmcfhaaDoor
open Go.RowKit
set_option linter.unusedVariables false
set_option maxRecDepth 20000 in
set_option maxHeartbeats 4000000 in
theorem r_pass3 {F : LxM.Ans} {W0 : World} {g tb : Nat} {s : ByteArray} (hs : s.size ≤ 16384) (a : Act) (w : World) (h : JR F W0 g tb s 3 a w) : ∃ rest, findLabel codeR 3 = some rest ∧ rest.wp Tryd.prog (passR F W0 g tb s 3 a w) a w := by
  refine ⟨_, rfl, ?_⟩
  obtain ⟨b, ok, f, k, toks, tc, tv, ⟨U, rfl⟩, ht, rx, hln, ⟨hfk, h1, h3, h4, hF⟩⟩ := h
  have RX0 := Lib.hid rx
  have HT := Lib.hid ht
  have HLN := Lib.hid (hln (by decide))
  have KO := Lib.hid rx.rd.kof
  have PE := fun W1 (h : Rb W1 g s f k tv) => peek_any W1 g s f k tv h rx.hk hs
  have pl := pk_lo s k
  have WD := fun W => wrd_any (pk s k) W pl.1 pl.2
  obtain ⟨c0, c1, c2, c3, f1, f2, f3⟩ := rx.rd.four
  cases hw : LxM.wd (pk s k)
  · have e0 : (s.data.toList.drop k).takeWhile LxM.wdb = [] ∧ (s.data.toList.drop k).dropWhile LxM.wdb = s.data.toList.drop k := by
      by_cases hlt : k < s.size
      · rw [drop_cons s k hlt, List.takeWhile_cons, List.dropWhile_cons]
        rw [pk_in s k hlt] at hw
        rw [if_neg (by show ¬ LxM.wd _ = true; rw [show LxM.i s[k] = (s[k].toNat : Int) from rfl, hw]; decide), if_neg (by show ¬ LxM.wd _ = true; rw [show LxM.i s[k] = (s[k].toNat : Int) from rfl, hw]; decide)]
        exact ⟨rfl, rfl⟩
      · rw [drop_none s k (by omega)]; exact ⟨rfl, rfl⟩
    rw [e0.1, List.append_nil] at h3
    rw [e0.2] at h4
    have hX : (s.extract f k).data.toList = (s.data.toList.drop f).take (k - f) := exd s f k
    have TKN := fun W1 (h : Rb W1 g s f k tv) => taken_any W1 g s f k tv h (Nat.le_of_lt hfk) rx.hk hs
    have hsz : (s.extract f k).size ≤ 16384 := by rw [ByteArray.size_extract]; omega
    have hsz2 : (s.extract f k).size = k - f := by rw [ByteArray.size_extract]; have := rx.hk; omega
    have hfs : f < s.size := by have := rx.hk; omega
    have hne : s.data.toList.drop f ≠ [] := by intro e; have := congrArg List.length e; simp at this; omega
    rw [hw] at WD
    have WO := fun W => wordof_any (s.extract f k) W hsz
    have KD : Hid (LxM.tk (s.data.toList.drop f) = if k - f ≤ 32 then some (⟨if LxM.isWord (s.extract f k).data.toList then 1 else 2, (s.extract f k).data.toList, 0, 0⟩, s.data.toList.drop k) else none) := by
      show LxM.tk (s.data.toList.drop f) = _
      obtain ⟨c, r, hcr⟩ := List.exists_cons_of_ne_nil hne
      rw [hcr] at h1 h3 h4 hX ⊢
      unfold LxM.tk LxM.tkW
      dsimp only
      rw [if_pos (show LxM.lt (LxM.i c) = true from h1), h3, h4, ← hX]
      have el : (s.extract f k).data.toList.length = k - f := by rw [← hsz2]; simp; omega
      rw [el]
    obtain ⟨X, hXX⟩ : ∃ X, s.extract f k = X := ⟨_, rfl⟩
    rw [hXX] at hsz hsz2 WO KD
    simp only [hXX] at TKN
    rw [hsz2] at WO
    obtain ⟨kd, hkd⟩ : ∃ kd : Int, (if LxM.isWord X.data.toList = true then (1 : Int) else 2) = kd := ⟨_, rfl⟩
    rw [hkd] at KD
    simp only [hkd] at WO
    obtain ⟨o, ho⟩ : ∃ o, decide (k - f ≤ 32) = o := ⟨_, rfl⟩
    simp only [ho] at WO
    have FIN : Hid (FinR F s f k toks (tcs ⟨kd, X.data.toList, 0, 0⟩) b (.bool o) 7) := by
      show f < k ∧ _
      refine ⟨hfk, _, o, rfl, rfl, rfl, ?_, hF⟩
      rw [KD.out]
      unfold Got
      by_cases q : k - f ≤ 32
      · rw [if_pos q]; exact ⟨by rw [← ho]; exact decide_eq_true q, rfl, rfl⟩
      · rw [if_neg q]; show o = false; rw [← ho]; exact decide_eq_false q
    clear rx hF ht h1 h3 h4 hfk pl hw e0 hX hsz hsz2 hfs hne hXX hkd ho KD
    refine wp_seq (wp_skip ?_)
    go_wp2_with (first
      | (go_at_call 29; refine (PE _ RX0.out.rd).mono ?_; rintro e W2 ⟨rfl, sm⟩; have RX2 := Lib.hid (RX0.out.sm sm); clear sm)
      | (go_at_call 26; refine (WD _).mono ?_; rintro e w' ⟨rfl, rfl⟩)
      | (go_at_call 32; refine (TKN _ RX2.out.rd).mono ?_; rintro e W3 ⟨rfl, sm⟩; have RX3 := Lib.hid (RX2.out.sm sm); clear sm)
      | (go_at_call 31; refine (WO _).mono ?_; rintro e W4 ⟨rfl, hb⟩; have RX4 := Lib.hid (RX3.out.step (RX3.out.rd.keep hb) (below_grown hb _) (Nat.le_refl _) RX3.out.hk); clear hb; unfold tval)
      | (refine wpList_store_row rfl 31 (.tmp 4) (.tmp 64) rfl tb (tcs ⟨kd, X.data.toList, 0, 0⟩) rfl rfl 31 _ RX4.out.tok sizeT HT.out (one4 _ _ _ _) ?_)
      | (refine wp_store_row 31 (.tmp 4) (.tmp 64) rfl tb (tcs ⟨kd, X.data.toList, 0, 0⟩) rfl rfl 31 _ RX4.out.tok sizeT HT.out (one4 _ _ _ _) ?_))
    go_step3
    exact goesR FrR.mk rfl (RX4.out.row _) FIN.out KO.out (by show _ + 2 < _ + 3; omega) (fun _ => HLN.out)
  · rw [hw] at WD
    have hlt : k < s.size := by
      rcases Nat.lt_or_ge k s.size with x | x
      · exact x
      · rw [pk_end s k x] at hw; exact absurd hw (by decide)
    have e2 : wrap64 ((k : Int) + 1) = ((k + 1 : Nat) : Int) := by unfold wrap64; omega
    have hwb : LxM.wdb s[k] = true := by rw [pk_in s k hlt] at hw; exact hw
    have FIN : Hid (FinR F s f (k + 1) toks tc b ok 3) := by
      show f < k + 1 ∧ _
      refine ⟨Nat.lt_succ_of_lt hfk, h1, ?_, ?_, hF⟩
      · rw [h3, drop_cons s k hlt, List.takeWhile_cons, if_pos hwb]
        have e : (s.data.toList.drop f).take (k + 1 - f) = (s.data.toList.drop f).take (k - f) ++ [s[k]] := by
          have hk2 : k - f < (s.data.toList.drop f).length := by simp; omega
          rw [show k + 1 - f = k - f + 1 by omega, List.take_succ_eq_append_getElem hk2]
          congr 1
          simp
          congr 1
          omega
        rw [e, List.append_assoc]; rfl
      · rw [h4, drop_cons s k hlt, List.dropWhile_cons, if_pos hwb]
    have HL := Lib.hid hlt
    clear rx hF ht hlt h1 h3 h4 hfk pl hwb hw
    refine wp_seq (wp_skip ?_)
    go_wp2_with (first
      | (go_at_call 29; refine (PE _ RX0.out.rd).mono ?_; rintro e W2 ⟨rfl, sm⟩; have RX2 := Lib.hid (RX0.out.sm sm); obtain ⟨c0, c1, c2, c3, f1, f2, f3⟩ := RX2.out.rd.four; clear sm)
      | (go_at_call 26; refine (WD _).mono ?_; rintro e w' ⟨rfl, rfl⟩))
    go_step3
    exact goesR FrR.mk HT.out (RX2.out.step (RX2.out.rd.put2 (k + 1)) (grown_set _ _ _ _) (Nat.le_succ _) HL.out) FIN.out KO.out (by have := HL.out; show _ + 3 < _ + 3; omega) (fun _ => HLN.out)
end Go.Proofs.YtikbgkndfmcfhaaDoor
