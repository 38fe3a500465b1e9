/- Package lex: the reserved words, the signs. -/
import Derived.Test.YtikbgkndfmcfhaaDoorLxR
namespace Go.Proofs.YtikbgkndfmcfhaaDoor
open Go.RowKit
set_option linter.unusedVariables false
theorem eq_of_bytes {s : ByteArray} {l : List UInt8} (h : (s.toList == l) = true) : s.data.toList = l := by rw [← Go.ByteArray.toList_eq]; exact eq_of_beq h
theorem ne_of_bytes {s : ByteArray} {l : List UInt8} (h : (s.toList == l) = false) : (s.data.toList == l) = false := by rw [← Go.ByteArray.toList_eq]; exact h
theorem tf {p : Prop} {b : Bool} (h : b = true) (k : b = false) : p := by rw [h] at k; cases k
set_option maxRecDepth 20000 in
set_option maxHeartbeats 2000000 in
theorem word_any (s : ByteArray) (w : World) :
    Calls Tryd.prog 12 #[.string s] w fun e w' => e = .returned (.bool (LxM.isWord s.data.toList)) ∧ w = w' := by
  go_enter Tryd.func12, Tryd.ntmps12
  go_wp2_with fail
  all_goals first
    | (refine tf (b := _ == _) (by assumption) (by assumption))
    | (rename_i h; have e := eq_of_bytes h; go_ret; exact ⟨by rw [e]; rfl, rfl⟩)
    | (go_ret; refine ⟨bool_ret ?_, rfl⟩; simp_all [LxM.isWord, LxM.words, Go.ByteArray.toList_eq])
set_option maxRecDepth 20000 in
set_option maxHeartbeats 2000000 in
theorem issign_any (s : ByteArray) (w : World) :
    Calls Tryd.prog 40 #[.string s] w fun e w' => e = .returned (.bool (LxM.isSign s.data.toList)) ∧ w = w' := by
  go_enter Tryd.func40, Tryd.ntmps40
  go_wp2_with fail
  all_goals first
    | (refine tf (b := _ == _) (by assumption) (by assumption))
    | (rename_i h; have e := eq_of_bytes h; go_ret; exact ⟨by rw [e]; rfl, rfl⟩)
    | (go_ret; refine ⟨bool_ret ?_, rfl⟩; simp_all [LxM.isSign, LxM.twos, LxM.ones, Go.ByteArray.toList_eq])
end Go.Proofs.YtikbgkndfmcfhaaDoor
