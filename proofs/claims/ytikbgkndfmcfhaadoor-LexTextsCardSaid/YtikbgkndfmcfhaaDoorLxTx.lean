/- LexTexts: the walk. -/
import Derived.Test.YtikbgkndfmcfhaaDoorLxBl
namespace Go.Proofs.YtikbgkndfmcfhaaDoor
open Go.RowKit
set_option linter.unusedVariables false
theorem ext_one {s : ByteArray} {k : Nat} (hk : k < s.size) : (s.extract k (k + 1)).data.toList = [s[k]] := by
  rw [exd, Nat.add_sub_cancel_left, List.drop_eq_getElem_cons (show k < s.data.toList.length by simpa using hk)]
  simp
  rfl
theorem take_one {s : ByteArray} {k : Nat} (hk : k < s.size) : s.data.toList.take (k + 1) = s.data.toList.take k ++ [s[k]] := by
  rw [List.take_succ_eq_append_getElem (show k < s.data.toList.length by simpa using hk)]
  simp
  rfl
/-- A byte that is said by itself. -/
theorem texts_one {s tb : ByteArray} {k : Nat} {c : UInt8} {m : UInt8} (h : LxM.Said m (s.data.toList.take k) tb.data.toList) (hk : k < s.size) (e : s[k] = c) (p : 32 ≤ c.toNat ∧ c.toNat ≤ 126 ∧ c.toNat ≠ 92 ∧ c.toNat ≠ 34 ∧ c.toNat ≠ 39) (hm : m = 34 ∨ m = 39 := by simp) : LxM.Said m (s.data.toList.take (k + 1)) (tb ++ s.extract k (k + 1)).data.toList := by
  obtain ⟨p1, p2, p3, p4, p5⟩ := p
  rw [take_one hk, ByteArray.data_append, Array.toList_append, ext_one hk, e]
  refine h.snoc (.inl ⟨rfl, ?_, ?_, ?_⟩)
  · rintro rfl
    rcases hm with rfl | rfl
    · exact p4 rfl
    · exact p5 rfl
  · rintro rfl; exact absurd p1 (by decide)
  · rintro rfl; exact p3 rfl
theorem dig_lo (h : Nat) (p : h < 16) : ∃ a : UInt8, ((⟨#[48, 49, 50, 51, 52, 53, 54, 55, 56, 57, 97, 98, 99, 100, 101, 102]⟩ : ByteArray).extract h (h + 1)).data.toList = [a] ∧ LxM.hx (LxM.i a) = (h : Nat) := by
  match h, p with
  | 0, _ => exact ⟨48, by rw [exd]; rfl, by decide⟩
  | 1, _ => exact ⟨49, by rw [exd]; rfl, by decide⟩
  | 2, _ => exact ⟨50, by rw [exd]; rfl, by decide⟩
  | 3, _ => exact ⟨51, by rw [exd]; rfl, by decide⟩
  | 4, _ => exact ⟨52, by rw [exd]; rfl, by decide⟩
  | 5, _ => exact ⟨53, by rw [exd]; rfl, by decide⟩
  | 6, _ => exact ⟨54, by rw [exd]; rfl, by decide⟩
  | 7, _ => exact ⟨55, by rw [exd]; rfl, by decide⟩
  | 8, _ => exact ⟨56, by rw [exd]; rfl, by decide⟩
  | 9, _ => exact ⟨57, by rw [exd]; rfl, by decide⟩
  | 10, _ => exact ⟨97, by rw [exd]; rfl, by decide⟩
  | 11, _ => exact ⟨98, by rw [exd]; rfl, by decide⟩
  | 12, _ => exact ⟨99, by rw [exd]; rfl, by decide⟩
  | 13, _ => exact ⟨100, by rw [exd]; rfl, by decide⟩
  | 14, _ => exact ⟨101, by rw [exd]; rfl, by decide⟩
  | 15, _ => exact ⟨102, by rw [exd]; rfl, by decide⟩
  | q + 16, z => exact absurd z (by omega)
theorem dig_up (h : Nat) (p : h < 16) : ∃ a : UInt8, ((⟨#[48, 49, 50, 51, 52, 53, 54, 55, 56, 57, 65, 66, 67, 68, 69, 70]⟩ : ByteArray).extract h (h + 1)).data.toList = [a] ∧ LxM.hx (LxM.i a) = (h : Nat) := by
  match h, p with
  | 0, _ => exact ⟨48, by rw [exd]; rfl, by decide⟩
  | 1, _ => exact ⟨49, by rw [exd]; rfl, by decide⟩
  | 2, _ => exact ⟨50, by rw [exd]; rfl, by decide⟩
  | 3, _ => exact ⟨51, by rw [exd]; rfl, by decide⟩
  | 4, _ => exact ⟨52, by rw [exd]; rfl, by decide⟩
  | 5, _ => exact ⟨53, by rw [exd]; rfl, by decide⟩
  | 6, _ => exact ⟨54, by rw [exd]; rfl, by decide⟩
  | 7, _ => exact ⟨55, by rw [exd]; rfl, by decide⟩
  | 8, _ => exact ⟨56, by rw [exd]; rfl, by decide⟩
  | 9, _ => exact ⟨57, by rw [exd]; rfl, by decide⟩
  | 10, _ => exact ⟨65, by rw [exd]; rfl, by decide⟩
  | 11, _ => exact ⟨66, by rw [exd]; rfl, by decide⟩
  | 12, _ => exact ⟨67, by rw [exd]; rfl, by decide⟩
  | 13, _ => exact ⟨68, by rw [exd]; rfl, by decide⟩
  | 14, _ => exact ⟨69, by rw [exd]; rfl, by decide⟩
  | 15, _ => exact ⟨70, by rw [exd]; rfl, by decide⟩
  | q + 16, z => exact absurd z (by omega)
/-- A byte that is said by two digits. -/
theorem texts_two {s tb : ByteArray} {k : Nat} {c : UInt8} {m : UInt8} {hh ll : Nat} (h : LxM.Said m (s.data.toList.take k) tb.data.toList) (hk : k < s.size) (e : s[k] = c) (e1 : hh = c.toNat / 16) (e2 : ll = c.toNat % 16) : LxM.Said m (s.data.toList.take (k + 1)) (tb ++ { data := #[92, 120] } ++ (⟨#[48, 49, 50, 51, 52, 53, 54, 55, 56, 57, 97, 98, 99, 100, 101, 102]⟩ : ByteArray).extract hh (hh + 1) ++ (⟨#[48, 49, 50, 51, 52, 53, 54, 55, 56, 57, 65, 66, 67, 68, 69, 70]⟩ : ByteArray).extract ll (ll + 1)).data.toList := by
  have c256 : c.toNat < 256 := c.toNat_lt
  obtain ⟨a, ea, ha⟩ := dig_lo hh (by omega)
  obtain ⟨b, eb, hb⟩ := dig_up ll (by omega)
  rw [take_one hk, ByteArray.data_append, Array.toList_append, ByteArray.data_append, Array.toList_append, ByteArray.data_append, Array.toList_append, ea, eb, e, List.append_assoc, List.append_assoc]
  exact h.snoc (.inr ⟨a, b, rfl, by rw [ha, e1], by rw [hb, e2]⟩)
theorem texts_len2 {tb d u : ByteArray} {k hh ll : Nat} (h : tb.size ≤ 4 * k) : (tb ++ { data := #[92, 120] } ++ d.extract hh (hh + 1) ++ u.extract ll (ll + 1)).size ≤ 4 * (k + 1) := by
  rw [ByteArray.size_append, ByteArray.size_append, ByteArray.size_append, ByteArray.size_extract, ByteArray.size_extract]
  show tb.size + 2 + _ + _ ≤ _
  omega
theorem texts_len {s tb : ByteArray} {k : Nat} (h : tb.size ≤ 4 * k) : (tb ++ s.extract k (k + 1)).size ≤ 4 * (k + 1) := by
  rw [ByteArray.size_append, ByteArray.size_extract]; omega
theorem Said.of_toList {m : UInt8} {s tb : ByteArray} {k : Nat} (h : LxM.Said m (s.data.toList.take k) tb.data.toList) (hk : s.size ≤ k) : LxM.Said m s.data.toList tb.data.toList := by
  rwa [List.take_of_length_le (by simpa using hk)] at h
theorem mark_list (m : UInt8) (tb : ByteArray) : ((⟨#[m]⟩ : ByteArray) ++ tb ++ ⟨#[m]⟩).data.toList = m :: (tb.data.toList ++ [m]) := by simp
theorem open_list (m : UInt8) (tb : ByteArray) : ((⟨#[32]⟩ : ByteArray) ++ ⟨#[m]⟩ ++ tb).data.toList = 32 :: m :: tb.data.toList := by simp
/-- A text between marks. -/
theorem lex_mark (W1 : World) (er : Er W1) (m : UInt8) (hm : m = 34 ∨ m = 39) (s tb : ByteArray) (h : LxM.Said m s.data.toList tb.data.toList) (hs : s.size ≤ 300) (ht : tb.size ≤ 1200) :
    Calls Tryd.prog 9 #[.string (⟨#[m]⟩ ++ tb ++ ⟨#[m]⟩)] W1 fun e W' => (∃ g c, e = .returned (.tuple #[.slice (some ⟨g, 0, none⟩) 2 c, .int .i64 0, .int .i64 0]) ∧ (2 : Int) ≤ (c : Int) ∧ g < W'.heap.size ∧ W'.cell? ⟨g, 0, none⟩ = some (.int .i64 4) ∧ W'.cell? ⟨g, 1, none⟩ = some (.string s)) ∧ Below W1.heap.size W1 W' := by
  refine (lex_any W1 _ (by rw [ByteArray.size_append, ByteArray.size_append]; show 1 + tb.size + 1 ≤ _; omega) er).mono ?_
  rintro e W' ⟨⟨tv, err, p, rfl, hm'⟩, hb⟩
  rw [mark_list, LxM.lex_said hm h (by simp; omega)] at hm'
  obtain ⟨rfl, rfl, row⟩ := hm'
  obtain ⟨g, cap, rfl, hg, hgl, hcap, hc⟩ := row.at_ (by simp)
  have c1 := hc 1 _ rfl
  rw [ba_eta s] at c1
  exact ⟨⟨g, cap, rfl, by simp at hcap; omega, hgl, hc 0 _ rfl, c1⟩, hb⟩
/-- A text with one mark. -/
theorem lex_unmarked (W1 : World) (er : Er W1) (m : UInt8) (hm : m = 34 ∨ m = 39) (s tb : ByteArray) (h : LxM.Said m s.data.toList tb.data.toList) (ht : tb.size ≤ 1200) :
    Calls Tryd.prog 9 #[.string (⟨#[32]⟩ ++ ⟨#[m]⟩ ++ tb)] W1 fun e W' => e = .returned (.tuple #[.slice none 0 0, .int .i64 14, .int .i64 1]) ∧ Below W1.heap.size W1 W' := by
  refine (lex_list W1 _ (by rw [ByteArray.size_append, ByteArray.size_append]; show 1 + 1 + tb.size ≤ _; omega) er).mono ?_
  rintro e W' ⟨⟨tv, err, p, rfl, hm'⟩, hb⟩
  rw [open_list, LxM.lex_open hm h] at hm'
  obtain ⟨rfl, rfl, rfl⟩ := hm'
  exact ⟨rfl, hb⟩
set_option maxRecDepth 20000 in
set_option maxHeartbeats 4000000 in
theorem texts_walk (W : World) (er : Er W) (s : ByteArray) (mark : Bool) (n : Int) :
    Calls Tryd.prog 6 #[.string s, .bool mark, .int .i64 n] W fun e W' => e = .returned (.bool true) ∧ Below W.heap.size W W' := by
  have TO := Lib.hid (fun W1 (h : Er W1) => told_any W1 h)
  have ER := Lib.hid er
  by_cases hs : s.size ≤ 300
  · have i1 : (s.size : Int) ≤ 300 := by omega
    have d1 : decide (300 < s.size) = false := decide_eq_false (by omega)
    have HS := Lib.hid hs
    clear er hs
    obtain ⟨m, hm, hmm⟩ : ∃ m : UInt8, (m = 34 ∨ m = 39) ∧ m = (if mark then 39 else 34) := by
      cases mark
      · exact ⟨34, .inl rfl, rfl⟩
      · exact ⟨39, .inr rfl, rfl⟩
    go_enter Tryd.func6, Tryd.ntmps6
    cases mark
    · go_wp2_with fail
      obtain rfl : m = 34 := hmm
      go_loopw [8, 9, 10] (fun t i c wr => ∃ (k : Nat) (tb : ByteArray), k ≤ s.size ∧ t = .string tb ∧ i = .int .i64 k ∧ LxM.Said 34 (s.data.toList.take k) tb.data.toList ∧ tb.size ≤ 4 * k ∧ Below W.heap.size W wr) (fun _ i _ _ => s.size - (intOf i).toNat)
      case atStart => exact ⟨0, ⟨#[]⟩, Nat.zero_le _, rfl, rfl, .nil, Nat.zero_le _, Below.refl _ _⟩
      case round =>
        obtain ⟨k, tb, hk, rfl, rfl, said, htb, hb⟩ := hrel
        have HB := Lib.hid hb
        have HSA := Lib.hid said
        have HTB := Lib.hid htb
        have k0 : (0 : Int) ≤ (k : Int) := by omega
        clear hb said htb
        by_cases hlt : k < s.size
        · have k1 : (k : Int) < (s.size : Int) := by omega
          obtain ⟨c, ec⟩ : ∃ c, s[k] = c := ⟨_, rfl⟩
          by_cases hp : 32 ≤ c.toNat ∧ c.toNat ≤ 126 ∧ c.toNat ≠ 92 ∧ c.toNat ≠ 34 ∧ c.toNat ≠ 39
          · have HPP := Lib.hid hp
            obtain ⟨p1, p2, p3, p4, p5⟩ := hp
            have q1 : decide ((c.toNat : Int) < 32) = false := decide_eq_false (by omega)
            have q2 : decide (126 < (c.toNat : Int)) = false := decide_eq_false (by omega)
            have q3 : ((c.toNat : Int) == 92) = false := by rw [beq_eq_false_iff_ne]; omega
            have q4 : ((c.toNat : Int) == 34) = false := by rw [beq_eq_false_iff_ne]; omega
            have q5 : ((c.toNat : Int) == 39) = false := by rw [beq_eq_false_iff_ne]; omega
            clear p1 p2 p3 p4 p5
            obtain ⟨bt, hbt⟩ : ∃ bt : Bool, (bits BinOp.and IntKind.i64 (wrap64 (n + (k : Int))) 3 == 0) = bt := ⟨_, rfl⟩
            cases bt
            · have z1 : ¬ 9223372036854775807 < tb.size + (min (k + 1) s.size - k) := by have := HTB.out; have := HS.out; omega
              have jn := Lib.hid (joins_next k s.size hlt)
              go_wp2_with fail
              refine ⟨⟨k + 1, _, hlt, rfl, ?_, texts_one HSA.out hlt ec HPP.out, texts_len HTB.out, HB.out⟩, ?_⟩
              · exact jn.out.1
              · exact jn.out.2
            · obtain ⟨hh, ehh⟩ : ∃ hh, hh = c.toNat / 16 := ⟨_, rfl⟩
              obtain ⟨ll, ell⟩ : ∃ ll, ll = c.toNat % 16 := ⟨_, rfl⟩
              have c256 : c.toNat < 256 := c.toNat_lt
              have h16 : hh < 16 := by omega
              have l16 : ll < 16 := by omega
              have r1 : (c.toNat : Int) / 16 % 256 = (hh : Int) := by omega
              have r2 : ((hh : Int) + 1) % 256 = ((hh + 1 : Nat) : Int) := by omega
              have r3 : (c.toNat : Int) % 16 = (ll : Int) := by omega
              have r4 : ((ll : Int) + 1) % 256 = ((ll + 1 : Nat) : Int) := by omega
              have r5 : (ll : Int) % 256 = (ll : Int) := by omega
              have u1 : (0 : Int) ≤ (hh : Int) := by omega
              have u2 : (hh : Int) < 16 := by omega
              have u3 : (0 : Int) ≤ (ll : Int) := by omega
              have u4 : (ll : Int) < 16 := by omega
              have z1 : ¬ 9223372036854775807 < tb.size + 2 := by have := HTB.out; have := HS.out; omega
              have z2 : ¬ 9223372036854775807 < tb.size + 2 + (min (hh + 1) 16 - hh) := by have := HTB.out; have := HS.out; omega
              have z3 : ¬ 9223372036854775807 < tb.size + 2 + (min (hh + 1) 16 - hh) + (min (ll + 1) 16 - ll) := by have := HTB.out; have := HS.out; omega
              have EH := Lib.hid (And.intro ehh ell)
              have jn := Lib.hid (joins_next k s.size hlt)
              clear c256 ehh ell h16 l16
              go_wp2_with fail
              go_region
              go_wp2_with fail
              refine ⟨⟨k + 1, _, hlt, rfl, ?_, texts_two HSA.out hlt ec EH.out.1 EH.out.2, texts_len2 HTB.out, HB.out.drew⟩, ?_⟩
              · exact jn.out.1
              · exact jn.out.2
          · have HQ : decide ((c.toNat : Int) < 32) = true ∨ decide ((c.toNat : Int) < 32) = false ∧ decide (126 < (c.toNat : Int)) = true ∨ decide ((c.toNat : Int) < 32) = false ∧ decide (126 < (c.toNat : Int)) = false ∧ ((c.toNat : Int) == 92) = true ∨ decide ((c.toNat : Int) < 32) = false ∧ decide (126 < (c.toNat : Int)) = false ∧ ((c.toNat : Int) == 92) = false ∧ ((c.toNat : Int) == 34) = true ∨ decide ((c.toNat : Int) < 32) = false ∧ decide (126 < (c.toNat : Int)) = false ∧ ((c.toNat : Int) == 92) = false ∧ ((c.toNat : Int) == 34) = false ∧ ((c.toNat : Int) == 39) = true := by
              simp only [decide_eq_true_eq, decide_eq_false_iff_not, beq_iff_eq, beq_eq_false_iff_ne]
              omega
            clear hp
            rcases HQ with q1 | ⟨q1, q2⟩ | ⟨q1, q2, q3⟩ | ⟨q1, q2, q3, q4⟩ | ⟨q1, q2, q3, q4, q5⟩
            all_goals
              obtain ⟨hh, ehh⟩ : ∃ hh, hh = c.toNat / 16 := ⟨_, rfl⟩
              obtain ⟨ll, ell⟩ : ∃ ll, ll = c.toNat % 16 := ⟨_, rfl⟩
              have c256 : c.toNat < 256 := c.toNat_lt
              have h16 : hh < 16 := by omega
              have l16 : ll < 16 := by omega
              have r1 : (c.toNat : Int) / 16 % 256 = (hh : Int) := by omega
              have r2 : ((hh : Int) + 1) % 256 = ((hh + 1 : Nat) : Int) := by omega
              have r3 : (c.toNat : Int) % 16 = (ll : Int) := by omega
              have r4 : ((ll : Int) + 1) % 256 = ((ll + 1 : Nat) : Int) := by omega
              have r5 : (ll : Int) % 256 = (ll : Int) := by omega
              have u1 : (0 : Int) ≤ (hh : Int) := by omega
              have u2 : (hh : Int) < 16 := by omega
              have u3 : (0 : Int) ≤ (ll : Int) := by omega
              have u4 : (ll : Int) < 16 := by omega
              have z1 : ¬ 9223372036854775807 < tb.size + 2 := by have := HTB.out; have := HS.out; omega
              have z2 : ¬ 9223372036854775807 < tb.size + 2 + (min (hh + 1) 16 - hh) := by have := HTB.out; have := HS.out; omega
              have z3 : ¬ 9223372036854775807 < tb.size + 2 + (min (hh + 1) 16 - hh) + (min (ll + 1) 16 - ll) := by have := HTB.out; have := HS.out; omega
              have EH := Lib.hid (And.intro ehh ell)
              have jn := Lib.hid (joins_next k s.size hlt)
              clear c256 ehh ell h16 l16
              go_wp2_with fail
              go_region
              go_wp2_with fail
              refine ⟨⟨k + 1, _, hlt, rfl, ?_, texts_two HSA.out hlt ec EH.out.1 EH.out.2, texts_len2 HTB.out, HB.out.drew⟩, ?_⟩
              · exact jn.out.1
              · exact jn.out.2
        · have k1 : (s.size : Int) ≤ (k : Int) := by omega
          have SA := Lib.hid (Said.of_toList HSA.out (by omega))
          have TBL := Lib.hid (show tb.size ≤ 1200 by have := HTB.out; have := HS.out; omega)
          have E1 := Lib.hid (ER.out.below HB.out ER.out.two)
          have LM := Lib.hid (fun W1 (h : Er W1) => lex_mark W1 h 34 (.inl rfl) s tb SA.out HS.out TBL.out)
          have LO := Lib.hid (fun W1 (h : Er W1) => lex_unmarked W1 h 34 (.inl rfl) s tb SA.out TBL.out)
          have c1 : ¬ 9223372036854775807 < 1 + tb.size := by have := TBL.out; omega
          have c2 : ¬ 9223372036854775807 < 1 + tb.size + 1 := by have := TBL.out; omega
          have c3 : ¬ 9223372036854775807 < 1 + 1 + tb.size := by have := TBL.out; omega
          have c4 : ¬ 9223372036854775807 < 2 + tb.size := by have := TBL.out; omega
          go_wp2_with fail
          go_at_call 9
          refine (LM.out _ E1.out).mono ?_
          rintro e w1 ⟨⟨g, cp, rfl, hcp, hp, x0, x1⟩, b1⟩
          have B1 := Lib.hid b1
          have X := Lib.hid (And.intro hp (And.intro x0 x1))
          have E2 := Lib.hid (E1.out.below b1 E1.out.two)
          clear b1 x0 x1 hp
          go_wp2_with fail
          go_at_call 9
          refine (LO.out _ E2.out).mono ?_
          rintro e w2 ⟨rfl, b2⟩
          have B2 := Lib.hid b2
          have E3 := Lib.hid (E2.out.below b2 E2.out.two)
          clear b2
          go_wp2_with (go_at_call 8; refine (TO.out _ E3.out).mono ?_; rintro e w3 ⟨rfl, b3⟩; have B3 := Lib.hid (B2.out.trans (b3.mono B2.out.size)); have x0 := (B3.out.cell (p := ⟨g, 0, none⟩) X.out.1).trans X.out.2.1; have x1 := (B3.out.cell (p := ⟨g, 1, none⟩) X.out.1).trans X.out.2.2; clear b3)
          go_ret
          exact ⟨rfl, HB.out.trans ((B1.out.trans (B3.out.mono B1.out.size)).mono HB.out.size)⟩
    · go_wp2_with fail
      obtain rfl : m = 39 := hmm
      go_loopw [8, 9, 10] (fun t i c wr => ∃ (k : Nat) (tb : ByteArray), k ≤ s.size ∧ t = .string tb ∧ i = .int .i64 k ∧ LxM.Said 39 (s.data.toList.take k) tb.data.toList ∧ tb.size ≤ 4 * k ∧ Below W.heap.size W wr) (fun _ i _ _ => s.size - (intOf i).toNat)
      case atStart => exact ⟨0, ⟨#[]⟩, Nat.zero_le _, rfl, rfl, .nil, Nat.zero_le _, Below.refl _ _⟩
      case round =>
        obtain ⟨k, tb, hk, rfl, rfl, said, htb, hb⟩ := hrel
        have HB := Lib.hid hb
        have HSA := Lib.hid said
        have HTB := Lib.hid htb
        have k0 : (0 : Int) ≤ (k : Int) := by omega
        clear hb said htb
        by_cases hlt : k < s.size
        · have k1 : (k : Int) < (s.size : Int) := by omega
          obtain ⟨c, ec⟩ : ∃ c, s[k] = c := ⟨_, rfl⟩
          by_cases hp : 32 ≤ c.toNat ∧ c.toNat ≤ 126 ∧ c.toNat ≠ 92 ∧ c.toNat ≠ 34 ∧ c.toNat ≠ 39
          · have HPP := Lib.hid hp
            obtain ⟨p1, p2, p3, p4, p5⟩ := hp
            have q1 : decide ((c.toNat : Int) < 32) = false := decide_eq_false (by omega)
            have q2 : decide (126 < (c.toNat : Int)) = false := decide_eq_false (by omega)
            have q3 : ((c.toNat : Int) == 92) = false := by rw [beq_eq_false_iff_ne]; omega
            have q4 : ((c.toNat : Int) == 34) = false := by rw [beq_eq_false_iff_ne]; omega
            have q5 : ((c.toNat : Int) == 39) = false := by rw [beq_eq_false_iff_ne]; omega
            clear p1 p2 p3 p4 p5
            obtain ⟨bt, hbt⟩ : ∃ bt : Bool, (bits BinOp.and IntKind.i64 (wrap64 (n + (k : Int))) 3 == 0) = bt := ⟨_, rfl⟩
            cases bt
            · have z1 : ¬ 9223372036854775807 < tb.size + (min (k + 1) s.size - k) := by have := HTB.out; have := HS.out; omega
              have jn := Lib.hid (joins_next k s.size hlt)
              go_wp2_with fail
              refine ⟨⟨k + 1, _, hlt, rfl, ?_, texts_one HSA.out hlt ec HPP.out, texts_len HTB.out, HB.out⟩, ?_⟩
              · exact jn.out.1
              · exact jn.out.2
            · obtain ⟨hh, ehh⟩ : ∃ hh, hh = c.toNat / 16 := ⟨_, rfl⟩
              obtain ⟨ll, ell⟩ : ∃ ll, ll = c.toNat % 16 := ⟨_, rfl⟩
              have c256 : c.toNat < 256 := c.toNat_lt
              have h16 : hh < 16 := by omega
              have l16 : ll < 16 := by omega
              have r1 : (c.toNat : Int) / 16 % 256 = (hh : Int) := by omega
              have r2 : ((hh : Int) + 1) % 256 = ((hh + 1 : Nat) : Int) := by omega
              have r3 : (c.toNat : Int) % 16 = (ll : Int) := by omega
              have r4 : ((ll : Int) + 1) % 256 = ((ll + 1 : Nat) : Int) := by omega
              have r5 : (ll : Int) % 256 = (ll : Int) := by omega
              have u1 : (0 : Int) ≤ (hh : Int) := by omega
              have u2 : (hh : Int) < 16 := by omega
              have u3 : (0 : Int) ≤ (ll : Int) := by omega
              have u4 : (ll : Int) < 16 := by omega
              have z1 : ¬ 9223372036854775807 < tb.size + 2 := by have := HTB.out; have := HS.out; omega
              have z2 : ¬ 9223372036854775807 < tb.size + 2 + (min (hh + 1) 16 - hh) := by have := HTB.out; have := HS.out; omega
              have z3 : ¬ 9223372036854775807 < tb.size + 2 + (min (hh + 1) 16 - hh) + (min (ll + 1) 16 - ll) := by have := HTB.out; have := HS.out; omega
              have EH := Lib.hid (And.intro ehh ell)
              have jn := Lib.hid (joins_next k s.size hlt)
              clear c256 ehh ell h16 l16
              go_wp2_with fail
              go_region
              go_wp2_with fail
              refine ⟨⟨k + 1, _, hlt, rfl, ?_, texts_two HSA.out hlt ec EH.out.1 EH.out.2, texts_len2 HTB.out, HB.out.drew⟩, ?_⟩
              · exact jn.out.1
              · exact jn.out.2
          · have HQ : decide ((c.toNat : Int) < 32) = true ∨ decide ((c.toNat : Int) < 32) = false ∧ decide (126 < (c.toNat : Int)) = true ∨ decide ((c.toNat : Int) < 32) = false ∧ decide (126 < (c.toNat : Int)) = false ∧ ((c.toNat : Int) == 92) = true ∨ decide ((c.toNat : Int) < 32) = false ∧ decide (126 < (c.toNat : Int)) = false ∧ ((c.toNat : Int) == 92) = false ∧ ((c.toNat : Int) == 34) = true ∨ decide ((c.toNat : Int) < 32) = false ∧ decide (126 < (c.toNat : Int)) = false ∧ ((c.toNat : Int) == 92) = false ∧ ((c.toNat : Int) == 34) = false ∧ ((c.toNat : Int) == 39) = true := by
              simp only [decide_eq_true_eq, decide_eq_false_iff_not, beq_iff_eq, beq_eq_false_iff_ne]
              omega
            clear hp
            rcases HQ with q1 | ⟨q1, q2⟩ | ⟨q1, q2, q3⟩ | ⟨q1, q2, q3, q4⟩ | ⟨q1, q2, q3, q4, q5⟩
            all_goals
              obtain ⟨hh, ehh⟩ : ∃ hh, hh = c.toNat / 16 := ⟨_, rfl⟩
              obtain ⟨ll, ell⟩ : ∃ ll, ll = c.toNat % 16 := ⟨_, rfl⟩
              have c256 : c.toNat < 256 := c.toNat_lt
              have h16 : hh < 16 := by omega
              have l16 : ll < 16 := by omega
              have r1 : (c.toNat : Int) / 16 % 256 = (hh : Int) := by omega
              have r2 : ((hh : Int) + 1) % 256 = ((hh + 1 : Nat) : Int) := by omega
              have r3 : (c.toNat : Int) % 16 = (ll : Int) := by omega
              have r4 : ((ll : Int) + 1) % 256 = ((ll + 1 : Nat) : Int) := by omega
              have r5 : (ll : Int) % 256 = (ll : Int) := by omega
              have u1 : (0 : Int) ≤ (hh : Int) := by omega
              have u2 : (hh : Int) < 16 := by omega
              have u3 : (0 : Int) ≤ (ll : Int) := by omega
              have u4 : (ll : Int) < 16 := by omega
              have z1 : ¬ 9223372036854775807 < tb.size + 2 := by have := HTB.out; have := HS.out; omega
              have z2 : ¬ 9223372036854775807 < tb.size + 2 + (min (hh + 1) 16 - hh) := by have := HTB.out; have := HS.out; omega
              have z3 : ¬ 9223372036854775807 < tb.size + 2 + (min (hh + 1) 16 - hh) + (min (ll + 1) 16 - ll) := by have := HTB.out; have := HS.out; omega
              have EH := Lib.hid (And.intro ehh ell)
              have jn := Lib.hid (joins_next k s.size hlt)
              clear c256 ehh ell h16 l16
              go_wp2_with fail
              go_region
              go_wp2_with fail
              refine ⟨⟨k + 1, _, hlt, rfl, ?_, texts_two HSA.out hlt ec EH.out.1 EH.out.2, texts_len2 HTB.out, HB.out.drew⟩, ?_⟩
              · exact jn.out.1
              · exact jn.out.2
        · have k1 : (s.size : Int) ≤ (k : Int) := by omega
          have SA := Lib.hid (Said.of_toList HSA.out (by omega))
          have TBL := Lib.hid (show tb.size ≤ 1200 by have := HTB.out; have := HS.out; omega)
          have E1 := Lib.hid (ER.out.below HB.out ER.out.two)
          have LM := Lib.hid (fun W1 (h : Er W1) => lex_mark W1 h 39 (.inr rfl) s tb SA.out HS.out TBL.out)
          have LO := Lib.hid (fun W1 (h : Er W1) => lex_unmarked W1 h 39 (.inr rfl) s tb SA.out TBL.out)
          have c1 : ¬ 9223372036854775807 < 1 + tb.size := by have := TBL.out; omega
          have c2 : ¬ 9223372036854775807 < 1 + tb.size + 1 := by have := TBL.out; omega
          have c3 : ¬ 9223372036854775807 < 1 + 1 + tb.size := by have := TBL.out; omega
          have c4 : ¬ 9223372036854775807 < 2 + tb.size := by have := TBL.out; omega
          go_wp2_with fail
          go_at_call 9
          refine (LM.out _ E1.out).mono ?_
          rintro e w1 ⟨⟨g, cp, rfl, hcp, hp, x0, x1⟩, b1⟩
          have B1 := Lib.hid b1
          have X := Lib.hid (And.intro hp (And.intro x0 x1))
          have E2 := Lib.hid (E1.out.below b1 E1.out.two)
          clear b1 x0 x1 hp
          go_wp2_with fail
          go_at_call 9
          refine (LO.out _ E2.out).mono ?_
          rintro e w2 ⟨rfl, b2⟩
          have B2 := Lib.hid b2
          have E3 := Lib.hid (E2.out.below b2 E2.out.two)
          clear b2
          go_wp2_with (go_at_call 8; refine (TO.out _ E3.out).mono ?_; rintro e w3 ⟨rfl, b3⟩; have B3 := Lib.hid (B2.out.trans (b3.mono B2.out.size)); have x0 := (B3.out.cell (p := ⟨g, 0, none⟩) X.out.1).trans X.out.2.1; have x1 := (B3.out.cell (p := ⟨g, 1, none⟩) X.out.1).trans X.out.2.2; clear b3)
          go_ret
          exact ⟨rfl, HB.out.trans ((B1.out.trans (B3.out.mono B1.out.size)).mono HB.out.size)⟩
  · have i1 : (300 : Int) < (s.size : Int) := by omega
    have d1 : decide (300 < s.size) = true := decide_eq_true (by omega)
    clear er hs
    go_enter Tryd.func6, Tryd.ntmps6
    go_wp2_with (go_at_call 8; refine (TO.out _ ER.out).mono ?_; rintro e w3 ⟨rfl, b3⟩)
    go_ret
    exact ⟨rfl, b3⟩
end Go.Proofs.YtikbgkndfmcfhaaDoor
