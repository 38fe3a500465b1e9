/- The contract of ints.parseBelow: what it returns for any text, by a plain function over the text's bytes; and of CutPrefix at a minus sign, and of ints.Parse. Memory stays as it was. -/
import Derived.Test.YtgcacpcjlbhniaaDoorArith
import Derived.ScopeJumps
import Derived.WalkMore
import Derived.Lib.Hide
namespace Go.Proofs.YtgcacpcjlbhniaaDoor
open Go.RowKit

/-- A scope with one label that is jumped back to: the rounds are walked once; the way up to the label ends where the relation holds. -/
theorem wp_scope_rounds {P : Program} {a : Act} {w : World} {Q : Exit → Act → World → Prop} {c rest : Code} (l : Nat) (J : Act → World → Prop) (μ : Act → World → Nat) (hf : findLabel c l = some (.seq .skip rest))
    (pass : ∀ a w, J a w → rest.wp P (Exit.jump l (fun a' w' => J a' w' ∧ μ a' w' < μ a w) Q) a w)
    (first : Hid (∀ a w, J a w → rest.wp P (Exit.jump l J Q) a w) → c.wp P (Exit.jump l J Q) a w) : (Code.scope c).wp P Q a w :=
  wp_scope_jumps l J μ hf (first fun a w h => wp_mono (pass a w h) fun e a w q => by cases e <;> first | exact ⟨q.1, q.2.1⟩ | exact q)
    fun a w h => wp_seq (wp_skip (pass a w h))

/-- A byte less the byte '0', as uint8 reckons. -/
def dig (c : UInt8) : Int := ((c.toNat : Int) - 48) % 256
/-- Minus the number of the digits, going on from n. -/
def pb : List UInt8 → Int → Int × Bool
  | [], n => (n, true)
  | c :: r, n => if 9 < dig c then (0, false) else if mulB n 10 = false then (0, false) else if subB (mulV n 10) (dig c) = false then (0, false) else pb r (subV (mulV n 10) (dig c))
theorem pb_far {c : UInt8} {r : List UInt8} {n : Int} (h : 9 < dig c) : pb (c :: r) n = (0, false) := by rw [pb, if_pos h]
theorem pb_mul {c : UInt8} {r : List UInt8} {n : Int} (h : dig c ≤ 9) (k : mulB n 10 = false) : pb (c :: r) n = (0, false) := by
  rw [pb, if_neg (by omega), if_pos k]
theorem pb_sub {c : UInt8} {r : List UInt8} {n : Int} (h : dig c ≤ 9) (k : mulB n 10 = true) (l : subB (mulV n 10) (dig c) = false) : pb (c :: r) n = (0, false) := by
  rw [pb, if_neg (by omega), if_neg (by rw [k]; decide), if_pos l]
theorem pb_on {c : UInt8} {r : List UInt8} {n : Int} (h : dig c ≤ 9) (k : mulB n 10 = true) (l : subB (mulV n 10) (dig c) = true) : pb (c :: r) n = pb r (subV (mulV n 10) (dig c)) := by
  rw [pb, if_neg (by omega), if_neg (by rw [k]; decide), if_neg (by rw [l]; decide)]
theorem drop_cons (s : ByteArray) (k : Nat) (h : k < s.size) : s.data.toList.drop k = s[k] :: s.data.toList.drop (k + 1) :=
  List.drop_eq_getElem_cons (by simpa using h)
theorem drop_none (s : ByteArray) (k : Nat) (h : s.size ≤ k) : s.data.toList.drop k = [] := List.drop_eq_nil_of_le (by simpa using h)

def BelowJ (s : ByteArray) (w : World) (a' : Act) (w' : World) : Prop :=
  w = w' ∧ ∃ (k : Nat) (n : Int) (u5 u7 u8 u9 u10 u11 u12 u13 u14 u15 u16 u17 u18 u19 u20 u21 u22 u23 u24 u25 u26 u27 u28 u29 u30 u31 u32 u33 u34 u35 u36 : Value), a' = { tmps := #[.string s, undef, .int .i64 0, .bool false, .int .i64 n, u5, .int .i64 k, u7, u8, u9, u10, u11, u12, u13, u14, u15, u16, u17, u18, u19, u20, u21, u22, u23, u24, u25, u26, u27, u28, u29, u30, u31, u32, u33, u34, u35, u36], defers := [] } ∧ k ≤ s.size ∧ (Lit.int .i64 n).wf = true ∧ pb s.data.toList 0 = pb (s.data.toList.drop k) n
def BelowM (s : ByteArray) (a' : Act) (_ : World) : Nat := s.size - (intOf (a'.tmps.getD 6 undef)).toNat

set_option maxHeartbeats 400000 in
theorem below_any (s : ByteArray) (w : World) (hs : s.size ≤ maxLen) :
    Calls Tryd.prog 20 #[.string s] w fun e w' => e = .returned (.tuple #[.int .i64 (pb s.data.toList 0).1, .bool (pb s.data.toList 0).2]) ∧ w = w' := by
  unfold maxLen at hs
  go_enter Tryd.func20, Tryd.ntmps20
  go_wp2
  refine wp_scope_rounds 0 (BelowJ s w) (BelowM s) rfl ?_ ?_
  rotate_left
  · intro H
    go_wp2
    go_step3
    rename_i hK
    exact hK _ _ (H _ _ ⟨rfl, 0, 0, _, _, _, _, _, _, _, _, _, _, _, _, _, _, _, _, _, _, _, _, _, _, _, _, _, _, _, _, _, _, _, rfl, Nat.zero_le _, by decide, rfl⟩)
  · rintro a' w' ⟨rfl, k, n, u5, u7, u8, u9, u10, u11, u12, u13, u14, u15, u16, u17, u18, u19, u20, u21, u22, u23, u24, u25, u26, u27, u28, u29, u30, u31, u32, u33, u34, u35, u36, rfl, hk, hn, hp⟩
    have HP := Lib.hid hp
    clear hp
    have z10 : (Lit.int .i64 10).wf = true := by decide
    have mw : (Lit.int .i64 (mulV n 10)).wf = true := fitV_wf _
    by_cases hlt : k < s.size
    · have HD : Hid (s.data.toList.drop k = s[k] :: s.data.toList.drop (k + 1)) := drop_cons s k hlt
      by_cases hd : 9 < ((s[k].toNat : Int) - 48) % 256
      · go_wp2_with fail
        all_goals simp only [Exit.jump]
        all_goals go_ret2
        all_goals exact ⟨tup2 (by rw [HP.out, HD.out, pb_far hd]) (by rw [HP.out, HD.out, pb_far hd]), rfl⟩
      · have hd1 : ((s[k].toNat : Int) - 48) % 256 ≤ 9 := by omega
        have dw : (Lit.int .i64 (((s[k].toNat : Int) - 48) % 256)).wf = true := wf_of (by omega) (by omega)
        cases hm : mulB n 10
        · have HM := Lib.hid hm
          clear hm
          go_wp2_with (go_at_call 28; refine (mul_any _ _ hn z10 _).mono ?_; rintro e w' ⟨rfl, rfl⟩; rw [HM.out])
          all_goals simp only [Exit.jump]
          all_goals go_ret2
          all_goals exact ⟨tup2 (by rw [HP.out, HD.out, pb_mul hd1 HM.out]) (by rw [HP.out, HD.out, pb_mul hd1 HM.out]), rfl⟩
        · have HM := Lib.hid hm
          clear hm
          cases hu : subB (mulV n 10) (((s[k].toNat : Int) - 48) % 256)
          · have HU := Lib.hid hu
            clear hu
            go_wp2_with (first | (go_at_call 28; refine (mul_any _ _ hn z10 _).mono ?_; rintro e w' ⟨rfl, rfl⟩; rw [HM.out]) | (go_at_call 21; refine (sub_any _ _ mw dw _).mono ?_; rintro e w' ⟨rfl, rfl⟩; rw [HU.out]))
            all_goals simp only [Exit.jump]
            all_goals go_ret2
            all_goals exact ⟨tup2 (by rw [HP.out, HD.out, pb_sub hd1 HM.out HU.out]) (by rw [HP.out, HD.out, pb_sub hd1 HM.out HU.out]), rfl⟩
          · have HU := Lib.hid hu
            clear hu
            go_wp2_with (first | (go_at_call 28; refine (mul_any _ _ hn z10 _).mono ?_; rintro e w' ⟨rfl, rfl⟩; rw [HM.out]) | (go_at_call 21; refine (sub_any _ _ mw dw _).mono ?_; rintro e w' ⟨rfl, rfl⟩; rw [HU.out]))
            go_step3
            refine ⟨rfl, ⟨rfl, k + 1, _, _, _, _, _, _, _, _, _, _, _, _, _, _, _, _, _, _, _, _, _, _, _, _, _, _, _, _, _, _, _, _, rfl, by omega, fitV_wf _, ?_⟩, ?_⟩
            · rw [HP.out, HD.out, pb_on hd1 HM.out HU.out]; rfl
            · simp [BelowM, intOf]; omega
    · go_wp2_with fail
      simp only [Exit.jump]
      go_ret2
      exact ⟨tup2 (by rw [HP.out, drop_none s k (by omega), pb]) (by rw [HP.out, drop_none s k (by omega), pb]), rfl⟩
end Go.Proofs.YtgcacpcjlbhniaaDoor
