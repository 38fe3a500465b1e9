/- Package lex: between tokens (printed by genlxr.py). -/
import Derived.Test.YtikbgkndfmcfhaaDoorLxRabl
import Derived.Test.YtikbgkndfmcfhaaDoorLxRarem
import Derived.Test.YtikbgkndfmcfhaaDoorLxRalet
import Derived.Test.YtikbgkndfmcfhaaDoorLxRadig
import Derived.Test.YtikbgkndfmcfhaaDoorLxRaq34
import Derived.Test.YtikbgkndfmcfhaaDoorLxRaq39
import Derived.Test.YtikbgkndfmcfhaaDoorLxRasg
import Derived.Test.YtikbgkndfmcfhaaDoorLxRasm
import Derived.Test.YtikbgkndfmcfhaaDoorLxRaend
namespace Go.Proofs.YtikbgkndfmcfhaaDoor
open Go.RowKit
set_option linter.unusedVariables false
theorem bl45 : LxM.bl (LxM.i 45) = false ∧ LxM.lt (LxM.i 45) = false ∧ LxM.dg (LxM.i 45) = false := by decide
theorem r_pass0 {F : LxM.Ans} {W0 : World} {g tb : Nat} {s : ByteArray} (hs : s.size ≤ 16384) (a : Act) (w : World) (h : JR F W0 g tb s 0 a w) : ∃ rest, restR = some rest ∧ findLabel codeR 0 = some (.seq .skip rest) ∧ rest.wp Tryd.prog (passR F W0 g tb s 0 a w) a w := by
  obtain ⟨b, ok, f, k, toks, tc, tv, hfr, ht, rx, hln, hF⟩ := h
  have hF : F = (LxM.lexS s.size (s.data.toList.drop k)).pre toks := hF
  by_cases hlt : k < s.size
  · obtain ⟨c, hc⟩ : ∃ c, s[k] = c := ⟨_, rfl⟩
    cases hb : LxM.bl (LxM.i c)
    · by_cases N : c = 45 ∧ LxM.hd (s.data.toList.drop (k + 1)) = 45
      · exact pass0_rem hs a w b ok f k toks tc tv c hfr ht rx hF hlt hc hb N.1 N.2
      · by_cases N45 : c = 45
        · have hn : ¬ pk s (k + 1) = 45 := fun e => N ⟨N45, e⟩
          exact pass0_sm hs a w b ok f k toks tc tv c hfr ht rx hF hlt hc hb N N45 (by rw [N45]; decide) (by rw [N45]; decide) (by rw [N45]; decide) (by rw [N45]; decide) hn
        · cases hl : LxM.lt (LxM.i c)
          · cases hd : LxM.dg (LxM.i c)
            · by_cases N34 : c = 34
              · exact pass0_q34 hs a w b ok f k toks tc tv c hfr ht rx hF hlt hc hb N N45 hl hd N34
              · by_cases N39 : c = 39
                · exact pass0_q39 hs a w b ok f k toks tc tv c hfr ht rx hF hlt hc hb N N45 hl hd N34 N39
                · exact pass0_sg hs a w b ok f k toks tc tv c hfr ht rx hF hlt hc hb N N45 hl hd N34 N39
            · exact pass0_dig hs a w b ok f k toks tc tv c hfr ht rx hF hlt hc hb N N45 hl hd
          · exact pass0_let hs a w b ok f k toks tc tv c hfr ht rx hF hlt hc hb N N45 hl
    · exact pass0_bl hs a w b ok f k toks tc tv c hfr ht rx hF hlt hc hb
  · exact pass0_end hs a w b ok f k toks tc tv hfr ht rx hF hlt
end Go.Proofs.YtikbgkndfmcfhaaDoor
