/- The walk of the law IntsTexts: for any text and any int64 it answers true; it makes memory and changes none. -/
import Derived.Test.YtdiedplmgclacaaDoorToldB
import Derived.Test.YtdiedplmgclacaaDoorPrintB
import Derived.Test.YtdiedplmgclacaaDoorRefParse
import Derived.Test.YtdiedplmgclacaaDoorFmt
import Derived.Lib.ItoaLen
import Derived.Lib.ItoaMem
import Derived.Lib.SmallJoins
namespace Go.Proofs.YtdiedplmgclacaaDoor
open Go.RowKit

theorem below_grow {w w' : World} {k : Nat} {os : Array Obj} (h : w' = Sort.grow (w.drewN k) os) : Below w.heap.size w w' := by
  subst h
  refine ⟨rfl, rfl, rfl, ?_, fun i hi => ?_⟩
  · show w.heap.size ≤ (w.heap ++ os).size
    simp
  · show (w.heap ++ os)[i]? = w.heap[i]?
    rw [Array.getElem?_append_left hi]
theorem tab_below {P : Program} {w w' : World} {n : String} {k : IntKind} {zs : List Int} {g : Nat} (hg : P.globalNamed n = some g) (h : Lib.TabIs P w n k zs) (hb : Below w.heap.size w w') : Lib.TabIs P w' n k zs :=
  Joins.tab_stays hg h hb (Nat.le_refl _)
theorem below_then {w a b : World} (h : Below w.heap.size w a) (k : Below a.heap.size a b) : Below w.heap.size w b := h.trans (k.mono h.size)
theorem gPow : Tryd.prog.globalNamed "internal/strconv.uint64pow10" = some 0 := by kernel_rfl

set_option maxHeartbeats 400000 in
theorem rprint_any (n : Int) (wn : (Lit.int .i64 n).wf = true) (w : World) (htab : Lib.TabIs Tryd.prog w "internal/strconv.uint64pow10" .u64 Lib.pow10Tab) :
    Calls Tryd.prog 8 #[.int .i64 n] w fun e w' => e = .returned (.string ⟨(Lib.itoa n).toArray⟩) ∧ Below w.heap.size w w' := by
  have H := Lib.hid htab
  clear htab
  have n1 := wf_lo wn
  have n2 := wf_hi wn
  go_enter Tryd.func8, Tryd.ntmps8
  go_wp2_with (go_at_call 15; refine (Tryd.strconv_FormatInt_10 n n1 n2 _ H.out).mono ?_; rintro e w' ⟨rfl, k, os, hw⟩; have hb := below_grow hw; clear hw)
  go_ret
  exact ⟨rfl, hb⟩
theorem pback (n : Int) (wn : (Lit.int .i64 n).wf = true) (w : World) :
    Calls Tryd.prog 5 #[.string ⟨(Lib.itoa n).toArray⟩] w fun e w' => e = .returned (.tuple #[.int .i64 n, .bool true]) ∧ w = w' := by
  have n1 := wf_lo wn
  have n2 := wf_hi wn
  have hl := Lib.itoa_length_le n n1 n2
  have h := parse_any ⟨(Lib.itoa n).toArray⟩ w (by unfold maxLen; show (Lib.itoa n).toArray.size ≤ _; simp; omega)
  have e : ps ((Lib.itoa n).toArray.toList) = (n, true) := by rw [List.toList_toArray]; exact ps_itoa n n1 n2
  rw [e] at h
  exact h
set_option maxHeartbeats 400000 in
theorem texts_long (s : ByteArray) (n : Int) (w : World) (hs : 100 < s.size) :
    Calls Tryd.prog 3 #[.string s, .int .i64 n] w fun e w' => e = .returned (.bool true) ∧ Below w.heap.size w w' := by
  go_enter Tryd.func3, Tryd.ntmps3
  go_wp2_with (go_at_call 4; refine (told_any _).mono ?_; rintro e w' ⟨rfl, hb⟩)
  go_ret
  exact ⟨rfl, hb⟩
set_option maxHeartbeats 1000000 in
theorem texts_short (s : ByteArray) (n : Int) (wn : (Lit.int .i64 n).wf = true) (w : World) (hs : s.size ≤ 100) (htab : Lib.TabIs Tryd.prog w "internal/strconv.uint64pow10" .u64 Lib.pow10Tab) :
    Calls Tryd.prog 3 #[.string s, .int .i64 n] w fun e w' => e = .returned (.bool true) ∧ Below w.heap.size w w' := by
  have H := Lib.hid htab
  clear htab
  have hm : s.size ≤ maxLen := by unfold maxLen; omega
  have HM := Lib.hid hm
  clear hm
  go_enter Tryd.func3, Tryd.ntmps3
  go_wp2_with (first | (go_at_call 5; with_reducible refine (parse_any s _ HM.out).mono ?_; rintro e w' ⟨rfl, rfl⟩) | (go_at_call 6; refine (rparse_any s _ HM.out).mono ?_; rintro e w' ⟨rfl, rfl⟩))
  go_at_call 7
  refine (print_any n wn _).mono ?_
  rintro e w1 ⟨rfl, hb1⟩
  go_wp2_with (go_at_call 5; refine (pback n wn _).mono ?_; rintro e w' ⟨rfl, rfl⟩)
  refine (told_any _).mono ?_
  rintro e w2 ⟨rfl, hb2⟩
  have hb12 := below_then hb1 hb2
  clear hb1 hb2
  go_wp2_with fail
  go_at_call 7
  refine (print_any n wn _).mono ?_
  rintro e w3 ⟨rfl, hb3⟩
  have hb123 := below_then hb12 hb3
  have H3 := Lib.hid (tab_below gPow H.out hb123)
  clear hb12 hb3
  go_wp2_with fail
  go_at_call 8
  refine (rprint_any n wn _ H3.out).mono ?_
  rintro e w4 ⟨rfl, hb4⟩
  have hb := below_then hb123 hb4
  clear hb123 hb4
  go_wp2_with fail
  go_ret
  exact ⟨rfl, hb⟩
end Go.Proofs.YtdiedplmgclacaaDoor
