/- Package lex: between tokens (printed by genlxr.py). -/
import Derived.Test.YtikbgkndfmcfhaaDoorLxQ
namespace Go.Proofs.YtikbgkndfmcfhaaDoor
open Go.RowKit
set_option linter.unusedVariables false

theorem lexS_blank (n : Nat) (c : UInt8) (r : List UInt8) (h : LxM.bl (LxM.i c) = true) : LxM.lexS n (c :: r) = LxM.lexS n r := by
  unfold LxM.lexS
  rw [LxM.sk, if_pos h]
theorem lexS_rem (n : Nat) (c : UInt8) (r : List UInt8) (h : LxM.bl (LxM.i c) = false) (h1 : c = 45) (h2 : LxM.hd r = 45) : LxM.lexS n (c :: r) = LxM.lexT n (LxM.sk true r) := by
  unfold LxM.lexS
  rw [LxM.sk, if_neg (by rw [h]; decide), if_pos ⟨h1, h2⟩]
theorem lexS_tok (n : Nat) (c : UInt8) (r : List UInt8) (h : LxM.bl (LxM.i c) = false) (h1 : ¬ (c = 45 ∧ LxM.hd r = 45)) : LxM.lexS n (c :: r) = LxM.lexT n (c :: r) := by
  unfold LxM.lexS
  rw [LxM.sk, if_neg (by rw [h]; decide), if_neg h1]
end Go.Proofs.YtikbgkndfmcfhaaDoor
