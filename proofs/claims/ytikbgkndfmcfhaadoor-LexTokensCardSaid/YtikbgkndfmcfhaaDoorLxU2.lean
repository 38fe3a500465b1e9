/- The document's own answer: how long a sign is, a numeral's number. -/
import Derived.Test.YtikbgkndfmcfhaaDoorLxU1
namespace Go.Proofs.YtikbgkndfmcfhaaDoor
open Go.RowKit
set_option linter.unusedVariables false
def twosB : List ByteArray := [⟨#[46, 46]⟩, ⟨#[61, 61]⟩, ⟨#[126, 61]⟩, ⟨#[60, 61]⟩, ⟨#[62, 61]⟩, ⟨#[47, 47]⟩]
theorem twos_data : LxM.twos = twosB.map (fun t : ByteArray => t.data.toList) := rfl
def oneB : ByteArray := ⟨#[43, 45, 42, 37, 60, 62, 61, 40, 41, 123, 125, 91, 93, 44, 46, 35, 59]⟩
/-- How long a sign is. -/
def sg (l : List UInt8) : Nat := if 2 ≤ l.length ∧ LxM.twos.contains (l.take 2) = true then 2 else if LxM.ones.contains (l.take 1) = true then 1 else 0
theorem ext_take (s : ByteArray) (k : Nat) : (s.extract k (k + 2)).data.toList = (s.data.toList.drop k).take 2 := by rw [exd2, Nat.add_sub_cancel_left]
theorem ones_in (c : UInt8) : LxM.ones.contains [c] = true ↔ ∃ i, ∃ h : i < oneB.size, oneB[i] = c := by
  have e : LxM.ones = oneB.data.toList.map fun x => [x] := rfl
  rw [e, List.contains_iff_mem, List.mem_map]
  constructor
  · rintro ⟨x, hx, hc⟩
    injection hc with hc
    subst hc
    obtain ⟨i, hi, e⟩ := List.getElem_of_mem hx
    exact ⟨i, hi, e⟩
  · rintro ⟨i, hi, rfl⟩
    exact ⟨_, List.getElem_mem (show i < oneB.data.toList.length from hi), rfl⟩
theorem sg_one (s : ByteArray) (k : Nat) (hk : k < s.size) (h : ¬ (2 ≤ (s.data.toList.drop k).length ∧ LxM.twos.contains ((s.data.toList.drop k).take 2) = true)) : sg (s.data.toList.drop k) = if LxM.ones.contains [s[k]] = true then 1 else 0 := by
  unfold sg
  rw [if_neg h, drop_cons s k hk]
  rfl
theorem sg_two (s : ByteArray) (k : Nat) (hk : k + 1 < s.size) (h : LxM.twos.contains ((s.data.toList.drop k).take 2) = true) : sg (s.data.toList.drop k) = 2 := by
  unfold sg
  rw [if_pos ⟨by simp; omega, h⟩]
set_option maxRecDepth 20000 in
set_option maxHeartbeats 4000000 in
theorem rsign_any (s : ByteArray) (k : Nat) (w : World) (hk : k < s.size) (hs : s.size ≤ 1048576) :
    Calls Tryd.prog 23 #[.string s, .int .i64 (k : Int)] w fun e w' => e = .returned (.int .i64 (sg (s.data.toList.drop k) : Int)) ∧ Below w.heap.size w w' := by
  have HT : Hid (∀ C, C = (twosB.map Value.string).toArray → Tx (w.alloc (.cells C 9)) w.heap.size twosB) := fun C hC => tx_new w twosB 9 C hC
  have HA : Hid (∀ b w, Tx w b twosB → Calls Tryd.prog 24 #[.slice (some ⟨b, 0, none⟩) 6 6, .string (s.extract k (k + 2))] w fun e w' => e = .returned (.bool (LxM.twos.contains (s.extract k (k + 2)).data.toList)) ∧ w = w') := fun b w h => by
    rw [twos_data, ← any_contains]; exact has_any twosB b 6 _ w h (by decide) (by decide)
  have k0 : (0 : Int) ≤ (k : Int) := by omega
  have k1 : (k : Int) < (s.size : Int) := by omega
  have wk1 : wrap64 ((k : Int) + 1) = ((k + 1 : Nat) : Int) := by unfold wrap64; omega
  have wk2 : wrap64 ((k : Int) + 2) = ((k + 2 : Nat) : Int) := by unfold wrap64; omega
  have ONE : Hid (∃ x, s[k] = x) := ⟨s[k], rfl⟩
  by_cases hl2 : k + 1 < s.size
  · have j2 : ((k + 1 : Nat) : Int) < (s.size : Int) := by omega
    obtain ⟨tv, htv⟩ : ∃ tv, LxM.twos.contains (s.extract k (k + 2)).data.toList = tv := ⟨_, rfl⟩
    rw [htv] at HA
    have HTV := Lib.hid htv
    clear htv
    go_enter Tryd.func23, Tryd.ntmps23
    cases tv
    · have SG : Hid (sg (s.data.toList.drop k) = if LxM.ones.contains [s[k]] = true then 1 else 0) := Lib.hid (sg_one s k hk (by rintro ⟨-, h⟩; rw [← ext_take s k, HTV.out] at h; cases h))
      go_wp2_with (go_at_call 24; refine (HA.out _ _ (HT.out _ rfl)).mono ?_; rintro e w' ⟨rfl, rfl⟩)
      go_loopw [6] (fun i wr => ∃ j : Nat, j ≤ 17 ∧ i = .int .i64 j ∧ (∀ i (h : i < j) (h2 : i < oneB.size), oneB[i] ≠ s[k]) ∧ Below w.heap.size w wr) (fun i _ => 17 - (intOf i).toNat)
      case atStart => exact ⟨0, Nat.zero_le _, rfl, (fun i h => absurd h (by omega)), (Below.refl _ _).alloc (Nat.le_refl _) _⟩
      case round =>
        obtain ⟨j, hj, rfl, hall, hb⟩ := hrel
        have HAL := Lib.hid hall
        have HB := Lib.hid hb
        have j0 : (0 : Int) ≤ (j : Int) := by omega
        clear hall hb
        by_cases hlt : j < 17
        · have j1 : (j : Int) < 17 := by omega
          have wk3 : wrap64 ((j : Int) + 1) = ((j + 1 : Nat) : Int) := by unfold wrap64; omega
          have hjo : j < oneB.size := hlt
          obtain ⟨c, ec⟩ : ∃ c, s[k] = c := ⟨_, rfl⟩
          have EC := Lib.hid ec
          obtain ⟨x, ex⟩ : ∃ x, oneB[j] = x := ⟨_, rfl⟩
          have EX := Lib.hid ex
          clear ex
          by_cases hx : x = c
          · have f1 : (((({ data := #[43, 45, 42, 37, 60, 62, 61, 40, 41, 123, 125, 91, 93, 44, 46, 35, 59] } : ByteArray)[j]'hjo).toNat : Int) == (c.toNat : Int)) = true := by show ((oneB[j].toNat : Int) == (c.toNat : Int)) = true; rw [EX.out, hx]; simp
            have HX := Lib.hid hx
            clear hx
            go_wp2_with fail
            go_region
            go_wp2_with fail
            go_ret
            have h1 : LxM.ones.contains [s[k]] = true := (ones_in _).2 ⟨j, hjo, by rw [EX.out, HX.out, EC.out]⟩
            exact ⟨by rw [SG.out, if_pos h1]; rfl, HB.out.drew⟩
          · have f1 : (((({ data := #[43, 45, 42, 37, 60, 62, 61, 40, 41, 123, 125, 91, 93, 44, 46, 35, 59] } : ByteArray)[j]'hjo).toNat : Int) == (c.toNat : Int)) = false := by
              show ((oneB[j].toNat : Int) == (c.toNat : Int)) = false; rw [EX.out, beq_eq_false_iff_ne]; intro e; apply hx; apply UInt8.toNat_inj.1; omega
            have HX := Lib.hid hx
            clear hx
            go_wp2_with fail
            go_region
            go_wp2_with fail
            refine ⟨⟨j + 1, hlt, by first | rfl | rw [wk3], ?_, HB.out.drew⟩, by show 17 - ((j : Int) + 1).toNat < 17 - ((j : Int)).toNat; omega⟩
            intro i h h2
            rcases Nat.lt_or_ge i j with h3 | h3
            · exact HAL.out i h3 h2
            · obtain rfl : i = j := by omega
              rw [EX.out, EC.out]; exact HX.out
        · obtain rfl : j = 17 := by omega
          go_wp2_with fail
          go_ret
          have h1 : ¬ LxM.ones.contains [s[k]] = true := fun h => by
            obtain ⟨i, h2, e⟩ := (ones_in _).1 h
            exact HAL.out i h2 h2 e
          exact ⟨by rw [SG.out, if_neg h1]; rfl, HB.out⟩
    · have SG := Lib.hid (sg_two s k hl2 (by rw [← ext_take s k, HTV.out]))
      go_wp2_with (go_at_call 24; refine (HA.out _ _ (HT.out _ rfl)).mono ?_; rintro e w' ⟨rfl, rfl⟩)
      go_ret
      exact ⟨by rw [SG.out]; rfl, (Below.refl _ _).alloc (Nat.le_refl _) _⟩
  · have j2 : (s.size : Int) ≤ ((k + 1 : Nat) : Int) := by omega
    have SG : Hid (sg (s.data.toList.drop k) = if LxM.ones.contains [s[k]] = true then 1 else 0) := Lib.hid (sg_one s k hk (by rintro ⟨h, -⟩; rw [List.length_drop] at h; have : s.data.toList.length = s.size := by simp
                                                                                                                               omega))
    go_enter Tryd.func23, Tryd.ntmps23
    go_wp2_with fail
    go_loopw [6] (fun i wr => ∃ j : Nat, j ≤ 17 ∧ i = .int .i64 j ∧ (∀ i (h : i < j) (h2 : i < oneB.size), oneB[i] ≠ s[k]) ∧ Below w.heap.size w wr) (fun i _ => 17 - (intOf i).toNat)
    case atStart => exact ⟨0, Nat.zero_le _, rfl, (fun i h => absurd h (by omega)), Below.refl _ _⟩
    case round =>
      obtain ⟨j, hj, rfl, hall, hb⟩ := hrel
      have HAL := Lib.hid hall
      have HB := Lib.hid hb
      have j0 : (0 : Int) ≤ (j : Int) := by omega
      clear hall hb
      by_cases hlt : j < 17
      · have j1 : (j : Int) < 17 := by omega
        have wk3 : wrap64 ((j : Int) + 1) = ((j + 1 : Nat) : Int) := by unfold wrap64; omega
        have hjo : j < oneB.size := hlt
        obtain ⟨c, ec⟩ : ∃ c, s[k] = c := ⟨_, rfl⟩
        have EC := Lib.hid ec
        obtain ⟨x, ex⟩ : ∃ x, oneB[j] = x := ⟨_, rfl⟩
        have EX := Lib.hid ex
        clear ex
        by_cases hx : x = c
        · have f1 : (((({ data := #[43, 45, 42, 37, 60, 62, 61, 40, 41, 123, 125, 91, 93, 44, 46, 35, 59] } : ByteArray)[j]'hjo).toNat : Int) == (c.toNat : Int)) = true := by show ((oneB[j].toNat : Int) == (c.toNat : Int)) = true; rw [EX.out, hx]; simp
          have HX := Lib.hid hx
          clear hx
          go_wp2_with fail
          go_region
          go_wp2_with fail
          go_ret
          have h1 : LxM.ones.contains [s[k]] = true := (ones_in _).2 ⟨j, hjo, by rw [EX.out, HX.out, EC.out]⟩
          exact ⟨by rw [SG.out, if_pos h1]; rfl, HB.out.drew⟩
        · have f1 : (((({ data := #[43, 45, 42, 37, 60, 62, 61, 40, 41, 123, 125, 91, 93, 44, 46, 35, 59] } : ByteArray)[j]'hjo).toNat : Int) == (c.toNat : Int)) = false := by
            show ((oneB[j].toNat : Int) == (c.toNat : Int)) = false; rw [EX.out, beq_eq_false_iff_ne]; intro e; apply hx; apply UInt8.toNat_inj.1; omega
          have HX := Lib.hid hx
          clear hx
          go_wp2_with fail
          go_region
          go_wp2_with fail
          refine ⟨⟨j + 1, hlt, by first | rfl | rw [wk3], ?_, HB.out.drew⟩, by show 17 - ((j : Int) + 1).toNat < 17 - ((j : Int)).toNat; omega⟩
          intro i h h2
          rcases Nat.lt_or_ge i j with h3 | h3
          · exact HAL.out i h3 h2
          · obtain rfl : i = j := by omega
            rw [EX.out, EC.out]; exact HX.out
      · obtain rfl : j = 17 := by omega
        go_wp2_with fail
        go_ret
        have h1 : ¬ LxM.ones.contains [s[k]] = true := fun h => by
          obtain ⟨i, h2, e⟩ := (ones_in _).1 h
          exact HAL.out i h2 h2 e
        exact ⟨by rw [SG.out, if_neg h1]; rfl, HB.out⟩
end Go.Proofs.YtikbgkndfmcfhaaDoor
