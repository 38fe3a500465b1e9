/- The walks of the laws on checksums, out of the contracts of crc.Update and crc.Sum. -/
import Derived.Test.YtfkadihofjbaoaaRefCrc
import Derived.Lib.SlBytesConst
namespace Go.Proofs.Ytfkadihofjbaoaa
open Go.RowKit
set_option linter.unusedVariables false

/-- What is asked of crc.Update. -/
def UpOk : Prop := ∀ (c : BitVec 32) (A : Option Addr) (l : List UInt8) (cap B : Nat) (w : World), l.length ≤ 4096 → Bs w B A l → B ≤ w.heap.size →
  Calls Try.prog 7 #[.int .u32 (c.toNat : Int), .slice A l.length cap] w fun e w' => e = .returned (.int .u32 ((Crc.crc c l).toNat : Int)) ∧ Below w.heap.size w w'
/-- What is asked of crc.Sum. -/
def SumOk : Prop := ∀ (A : Option Addr) (l : List UInt8) (cap B : Nat) (w : World), l.length ≤ 4096 → Bs w B A l → B ≤ w.heap.size →
  Calls Try.prog 9 #[.slice A l.length cap] w fun e w' => e = .returned (.int .u32 ((Crc.crc 0#32 l).toNat : Int)) ∧ Below w.heap.size w w'

/-- crc.Sum at a slice whose length is told apart. -/
theorem sum_at (SM : SumOk) (A : Option Addr) (l : List UInt8) (m cap : Nat) (hm : l.length = m) (h4 : m ≤ 4096) (w : World) (h : Bs w w.heap.size A l) :
    Calls Try.prog 9 #[.slice A m cap] w fun e w' => e = .returned (.int .u32 ((Crc.crc 0#32 l).toNat : Int)) ∧ Below w.heap.size w w' := by
  subst hm
  exact SM A l cap _ w h4 h (Nat.le_refl _)
theorem sum_nine : (Crc.crc 0#32 [49, 50, 51, 52, 53, 54, 55, 56, 57]).toNat = 3421780262 := by decide +kernel
theorem sum_none : (Crc.crc 0#32 []).toNat = 0 := by decide
set_option maxHeartbeats 1000000 in
theorem told_any (SM : SumOk) (w : World) :
    Calls Try.prog 6 #[] w fun e w' => e = .returned (.bool true) ∧ Below w.heap.size w w' := by
  have kc := fun (w : World) (C : Array Value) (n c : Nat) => Lib.run_convert_bytes_const (P := Try.prog) w 23 5 C n c Try.underlying23 Try.underlying5
  have S := Lib.hid SM
  clear SM
  go_enter Try.func6, Try.ntmps6
  go_wp2_with fail
  go_at_call 9
  refine (S.out _ [49, 50, 51, 52, 53, 54, 55, 56, 57] 9 (w.heap.size + 1) _ (by decide) (Bs.new _ _ _ _ _ rfl) (by simp)).mono ?_
  rintro e w1 ⟨rfl, hb1⟩
  rw [sum_nine]
  go_wp2_with fail
  go_at_call 9
  refine (S.out none [] 0 0 _ (by decide) Bs.empty (Nat.zero_le _)).mono ?_
  rintro e w2 ⟨rfl, hb2⟩
  rw [sum_none]
  go_wp2_with fail
  go_ret
  exact ⟨rfl, (((Below.refl _ _).alloc (Nat.le_refl _) _).trans (hb1.mono (by simp))).trans (hb2.mono (by have := hb1.size; simp at this; omega))⟩

set_option maxHeartbeats 1000000 in
theorem sums_long (SM : SumOk) (c : Int) (A A' : Option Addr) (n m ca cb : Nat) (w : World) (h : 300 < n ∨ 300 < m) :
    Calls Try.prog 3 #[.int .u32 c, .slice A n ca, .slice A' m cb] w fun e w' => e = .returned (.bool true) ∧ Below w.heap.size w w' := by
  have S := Lib.hid SM
  clear SM
  by_cases h1 : 300 < n
  · go_enter Try.func3, Try.ntmps3
    go_wp2_with (go_at_call 6; refine (told_any S.out _).mono ?_; rintro e w' ⟨rfl, hb⟩)
    go_ret
    exact ⟨rfl, hb⟩
  · have h2 : 300 < m := by omega
    have h3 : ¬ 300 < n := h1
    go_enter Try.func3, Try.ntmps3
    go_wp2_with (go_at_call 6; refine (told_any S.out _).mono ?_; rintro e w' ⟨rfl, hb⟩)
    go_ret
    exact ⟨rfl, hb⟩
theorem ret_true {p : Bool} (h : p = true) : Ending.returned (.bool p) = .returned (.bool true) := by rw [h]
theorem text_eq {L a b : List UInt8} (h : L = a ++ b) : (L == ((⟨a.toArray⟩ : ByteArray) ++ ⟨b.toArray⟩).toList) = true := by
  rw [ByteArray.toList_eq, ByteArray.mk_append_mk, h]
  simp
theorem refcrc_zero (A : Option Addr) (l : List UInt8) (cap B : Nat) (w : World) (hl : l.length ≤ maxLen) (h : Bs w B A l) :
    Calls Try.prog 8 #[.int .u32 0, .slice A l.length cap] w fun e w' => e = .returned (.int .u32 ((Crc.crc 0#32 l).toNat : Int)) ∧ w = w' := refcrc_any 0#32 A l cap B w hl h
set_option maxHeartbeats 1000000 in
theorem sums_short (UP : UpOk) (SM : SumOk) (c : BitVec 32) (A A' : Option Addr) (a b : List UInt8) (ca cb : Nat) (hA : A = none → ca = 0) (hA' : A' = none → cb = 0) (w : World) (ha : Bs w w.heap.size A a) (hb : Bs w w.heap.size A' b) (h1 : a.length ≤ 300) (h2 : b.length ≤ 300) :
    Calls Try.prog 3 #[.int .u32 (c.toNat : Int), .slice A a.length ca, .slice A' b.length cb] w fun e w' => e = .returned (.bool true) ∧ Below w.heap.size w w' := by
  have S := Lib.hid SM
  have U := Lib.hid UP
  have HA := Lib.hid hA
  have HA' := Lib.hid hA'
  have HB := Lib.hid ha
  have HB' := Lib.hid hb
  clear SM UP hA hA' ha hb
  have bw1 : Below w.heap.size w (w.alloc (.cells #[] 5)) := (Below.refl _ w).alloc (Nat.le_refl _) _
  have BW1 := Lib.hid bw1
  clear bw1
  have N1 : Hid (0 + a.length ≤ 4611686018427387904 ∧ 0 + a.length ≤ 140737488355328) := by constructor <;> omega
  have N2 : Hid (0 + a.length + b.length ≤ 4611686018427387904 ∧ ([] ++ a).length + b.length ≤ 140737488355328) := by rw [List.nil_append]; constructor <;> omega
  go_enter Try.func3, Try.ntmps3
  go_wp2_with (first
    | (at_builtin
       refine wpList_append_own_bytes rfl (.tmp 18) (.tmp 19) rfl w _ [] rfl (own_none w _) BW1.out A ca a rfl HA.out HB.out N1.out.2 ?_
       intro v1 w1 own1 bw1)
    | (at_builtin
       refine wpList_append_own_bytes rfl (.tmp 20) (.tmp 21) rfl w _ ([] ++ a) rfl own1 bw1 A' cb b rfl HA'.out HB'.out N2.out.2 ?_
       intro v2 w2 own2 bw2))
  obtain ⟨L, HL⟩ : ∃ L, Hid (L = a ++ b) := ⟨_, rfl⟩
  have own3 : w2.ownsRow w.heap.size 5 1 v2 L.length (L.map bv) := by rw [HL.out]; simpa using own2
  have l1 : L.length ≤ 600 := by rw [HL.out, List.length_append]; omega
  obtain ⟨A3, c3, rfl, -, -, hb3⟩ := Bs.of_own own3
  clear own1 own2 own3 bw1
  have E := Lib.hid (Crc.crc_append c a b)
  have lm : Hid (L.length ≤ maxLen ∧ L.length ≤ 4096 ∧ a.length ≤ 4096 ∧ b.length ≤ 4096) := by
    show L.length ≤ maxLen ∧ L.length ≤ 4096 ∧ a.length ≤ 4096 ∧ b.length ≤ 4096
    unfold maxLen; omega
  refine (U.out c A3 L c3 _ w2 lm.out.2.1 hb3 (Nat.le_refl _)).mono ?_
  rintro e w3 ⟨rfl, bw3⟩
  have HB3 := Lib.hid (hb3.later bw3)
  have bw4 := below_then bw2 bw3
  clear hb3 bw2 bw3
  go_wp2_with fail
  go_at_call 6
  refine (told_any S.out _).mono ?_
  rintro e w4 ⟨rfl, bw5⟩
  have HB4 := Lib.hid (HB3.out.later bw5)
  have bw6 := below_then bw4 bw5
  clear HB3 bw4 bw5
  go_wp2_with fail
  go_at_call 8
  refine (refcrc_any c A3 L c3 _ w4 lm.out.1 HB4.out).mono ?_
  rintro e w4' ⟨rfl, rfl⟩
  go_wp2_with fail
  go_at_call 7
  refine (U.out c A a ca _ w4 lm.out.2.2.1 (HB.out.later bw6) (Nat.le_refl _)).mono ?_
  rintro e w5 ⟨rfl, bw7⟩
  have HB5 := Lib.hid (HB4.out.later bw7)
  have bw8 := below_then bw6 bw7
  clear HB4 bw6 bw7
  go_wp2_with fail
  go_at_call 7
  refine (U.out (Crc.crc c a) A' b cb _ w5 lm.out.2.2.2 (HB'.out.later bw8) (Nat.le_refl _)).mono ?_
  rintro e w6 ⟨rfl, bw9⟩
  rw [← E.out, ← HL.out]
  have HB6 := Lib.hid (HB5.out.later bw9)
  have bw10 := below_then bw8 bw9
  clear HB5 bw8 bw9
  go_wp2_with fail
  go_at_call 9
  refine (S.out A3 L c3 _ w6 lm.out.2.1 HB6.out (Nat.le_refl _)).mono ?_
  rintro e w7 ⟨rfl, bw11⟩
  have HB7 := Lib.hid (HB6.out.later bw11)
  have bw12 := below_then bw10 bw11
  clear HB6 bw10 bw11
  go_wp2_with fail
  go_at_call 8
  refine (refcrc_zero A3 L c3 _ w7 lm.out.1 HB7.out).mono ?_
  rintro e w7' ⟨rfl, rfl⟩
  have cv1 := convert_bs (w := w7) c3 HB7.out
  have cv2 := convert_bs (w := w7) ca (HB.out.later bw12)
  have cv3 := convert_bs (w := w7) cb (HB'.out.later bw12)
  go_wp2_with fail
  go_ret
  exact ⟨ret_true (text_eq HL.out), bw12⟩
end Go.Proofs.Ytfkadihofjbaoaa
