/- The document's own disk: made whether the file is there or not; Append. -/
import Derived.Test.YthclaolmmlgalaaRefDo
namespace Go.Proofs.Ythclaolmmlgalaa
open Go.RowKit
set_option linter.unusedVariables false

theorem put_insert : ∀ (l : List DiskM.F) (f : DiskM.F) (i : Nat), i ≤ l.length → (∀ j (hj : j < l.length), j < i → DiskM.lt l[j].name f.name = true) → (∀ hi : i < l.length, DiskM.lt l[i].name f.name = false) → DiskM.find l f.name = none → DiskM.put l f = l.take i ++ f :: l.drop i
  | [], f, i, _, _, _, _ => by simp [DiskM.put]
  | g :: r, f, 0, _, _, h2, h3 => by
    have a := h2 (by simp)
    rw [DiskM.find_cons] at h3
    have ne : g.name ≠ f.name := fun e => by rw [if_pos e] at h3; cases h3
    rw [DiskM.put, if_neg ne, if_pos (DiskM.lt_of_not (Ne.symm ne) (by simpa using a))]
    rfl
  | g :: r, f, i + 1, h0, h1, h2, h3 => by
    have a := h1 0 (by simp) (by omega)
    rw [DiskM.find_cons] at h3
    have a' : DiskM.lt g.name f.name = true := a
    have ne : g.name ≠ f.name := DiskM.lt_ne a'
    rw [if_neg ne] at h3
    have nl : DiskM.lt f.name g.name = false := by
      cases q : DiskM.lt f.name g.name with
      | false => rfl
      | true => exact absurd rfl (DiskM.lt_ne (DiskM.lt_trans q a'))
    rw [DiskM.put, if_neg ne, if_neg (by simp [nl]), put_insert r f i (by simpa using h0) (fun j hj hji => h1 (j + 1) (Nat.succ_lt_succ hj) (by omega)) (fun hi => h2 (Nat.succ_lt_succ hi)) h3]
    rfl
theorem put_put (l : List DiskM.F) (f g : DiskM.F) (i : Nat) (h0 : i ≤ l.length) (h1 : ∀ j (hj : j < l.length), j < i → DiskM.lt l[j].name f.name = true) (h2 : ∀ hi : i < l.length, DiskM.lt l[i].name f.name = false) (h3 : DiskM.find l f.name = none) (hg : g.name = f.name) : (l.take i ++ f :: l.drop i).set i g = DiskM.put l g := by
  rw [put_insert l g i h0 (by rw [hg]; exact h1) (by rw [hg]; exact h2) (by rw [hg]; exact h3)]
  have e : (l.take i).length = i := by simp; omega
  rw [List.set_append_right _ _ (by omega), e, Nat.sub_self]
  rfl
set_option maxRecDepth 20000 in
set_option maxHeartbeats 4000000 in
theorem made_found (w : World) (g h : Nat) (M : DiskM.D) (R : RD w g h M) (s : ByteArray) (k : Nat) (hp : place M.l s.data.toList = (k : Int)) :
    Calls Try.prog 38 #[.pointer (some ⟨g, 0, none⟩), .string s] w fun e w' => e = .returned (.int .i64 k) ∧ w = w' := by
  have HR := Lib.hid R
  have HP := Lib.hid hp
  have k0 : (0 : Int) ≤ (k : Int) := by omega
  clear R hp
  go_enter Try.func38, Try.ntmps38
  go_wp2_with fail
  go_at_call 46
  refine (find_any w g h M HR.out s).mono ?_
  rintro e w' ⟨rfl, rfl⟩
  rw [HP.out]
  go_wp2_with fail
  go_ret
  exact ⟨rfl, rfl⟩
theorem made_any (w : World) (g h : Nat) (M : DiskM.D) (R : RD w g h M) (s : ByteArray) (hr : DiskM.Rises M.l) (hfew : (DiskM.put M.l ⟨s.data.toList, [], 0⟩).length ≤ 1000) :
    Calls Try.prog 38 #[.pointer (some ⟨g, 0, none⟩), .string s] w fun e w' => ∃ (k h' : Nat) (l : List DiskM.F) (b0 : List UInt8) (sy : Nat), e = .returned (.int .i64 k) ∧ l[k]? = some ⟨s.data.toList, b0, sy⟩ ∧ RD w' g h' { M with l := l } ∧ (h' = h ∨ w.heap.size ≤ h') ∧ Only (fun k => k = g ∨ k = h) w w' ∧
      (∀ f : DiskM.F, f.name = s.data.toList → l.set k f = DiskM.put M.l f) ∧ ((∃ x, DiskM.find M.l s.data.toList = some x ∧ b0 = x.b ∧ sy = x.sync) ∨ (DiskM.find M.l s.data.toList = none ∧ b0 = [] ∧ sy = 0)) := by
  by_cases hp : place M.l s.data.toList < 0
  · have hno := place_no hp
    refine (made_walk w g h M R s hno).mono ?_
    rintro e w' ⟨i, he, hi, h1, h2, v, W, rfl, hb, ho⟩
    have hins := put_insert M.l ⟨s.data.toList, [], 0⟩ i hi h1 h2 hno
    have hl : (M.l.take i ++ ⟨s.data.toList, [], 0⟩ :: M.l.drop i).length = M.l.length + 1 := by simp; omega
    obtain ⟨u1, u2⟩ := DiskM.used_put (l := M.l) ⟨s.data.toList, [], 0⟩ hr
    have u1' : DiskM.used (DiskM.put M.l ⟨s.data.toList, [], 0⟩) + DiskM.len M.l s.data.toList = DiskM.used M.l + 0 := u1
    have hsm := R.small
    obtain ⟨h', R', hh⟩ := R.new_row hb ho hl (by rw [← hins]; exact hfew) (by rw [← hins]; omega)
    refine ⟨i, h', _, [], 0, he, ?_, R', hh, Only.ref hb v, fun f hf => put_put M.l ⟨s.data.toList, [], 0⟩ f i hi h1 h2 hno hf, .inr ⟨hno, rfl, rfl⟩⟩
    rw [List.getElem?_append_right (by simp; omega)]
    have e : i - (M.l.take i).length = 0 := by simp; omega
    rw [e]
    rfl
  · obtain ⟨k, hk, e1, e2, e3⟩ := place_yes hp
    refine (made_found w g h M R s k e1).mono ?_
    rintro e w' ⟨he, rfl⟩
    refine ⟨k, h, M.l, M.l[k].b, M.l[k].sync, he, ?_, R, .inl rfl, Only.refl _ _, fun f hf => (put_set hr k hk f (by rw [hf, e3])).symm, .inl ⟨_, e2, rfl, rfl⟩⟩
    rw [List.getElem?_eq_getElem hk, ← e3]
theorem rappend_no {M : DiskM.D} {s b : List UInt8} {r : Int} (h : (M.down = true ∧ r = 23) ∨ (M.down = false ∧ DiskM.named s = false ∧ r = 24) ∨ (M.down = false ∧ DiskM.named s = true ∧ (M.max : Int) < DiskM.used M.l + b.length ∧ r = 9)) : DiskM.append M s b = (r, M) := by
  unfold DiskM.append
  rcases h with ⟨h, rfl⟩ | ⟨h, k, rfl⟩ | ⟨h, k, l, rfl⟩
  · rw [if_pos h]
  · rw [if_neg (by simp [h]), if_pos k]
  · rw [if_neg (by simp [h]), if_neg (by simp [k]), if_pos (by omega)]
theorem rappend_yes {M : DiskM.D} {s b : List UInt8} (h : M.down = false) (k : DiskM.named s = true) (l : (DiskM.used M.l : Int) + b.length ≤ M.max) : ∃ b0 sy, DiskM.append M s b = (0, { M with l := DiskM.put M.l ⟨s, b0 ++ b, sy⟩ }) ∧ b0.length = DiskM.len M.l s ∧
    ((∃ x, DiskM.find M.l s = some x ∧ b0 = x.b ∧ sy = x.sync) ∨ (DiskM.find M.l s = none ∧ b0 = [] ∧ sy = 0)) := by
  unfold DiskM.append DiskM.len
  rw [if_neg (by simp [h]), if_neg (by simp [k]), if_neg (by omega)]
  cases e : DiskM.find M.l s with
  | none => exact ⟨[], 0, rfl, rfl, .inr ⟨rfl, rfl, rfl⟩⟩
  | some x => exact ⟨x.b, x.sync, rfl, rfl, .inl ⟨x, rfl, rfl, rfl⟩⟩
theorem one_case {M : DiskM.D} {s b0 b1 : List UInt8} {s0 s1 : Nat} (h : (∃ x, DiskM.find M.l s = some x ∧ b0 = x.b ∧ s0 = x.sync) ∨ (DiskM.find M.l s = none ∧ b0 = [] ∧ s0 = 0)) (k : (∃ x, DiskM.find M.l s = some x ∧ b1 = x.b ∧ s1 = x.sync) ∨ (DiskM.find M.l s = none ∧ b1 = [] ∧ s1 = 0)) : b0 = b1 ∧ s0 = s1 := by
  rcases h with ⟨x, e, rfl, rfl⟩ | ⟨e, rfl, rfl⟩ <;> rcases k with ⟨y, e', rfl, rfl⟩ | ⟨e', rfl, rfl⟩
  · rw [e] at e'; injection e' with e'; subst e'; exact ⟨rfl, rfl⟩
  · rw [e] at e'; cases e'
  · rw [e] at e'; cases e'
  · exact ⟨rfl, rfl⟩
set_option maxRecDepth 20000 in
set_option maxHeartbeats 4000000 in
theorem rappend_any (w : World) (g h : Nat) (M : DiskM.D) (R : RD w g h M) (s b : ByteArray) (hr : DiskM.Rises M.l) (hb : b.size ≤ 4096) (hmax : M.max ≤ 16777216) (hfew : (DiskM.append M s.data.toList b.data.toList).2.l.length ≤ 1000) (hsm : DiskM.used (DiskM.append M s.data.toList b.data.toList).2.l ≤ 16777216) :
    RDoes 13 #[.pointer (some ⟨g, 0, none⟩), .string s, .string b] (.int .i64 (DiskM.append M s.data.toList b.data.toList).1) w g h (DiskM.append M s.data.toList b.data.toList).2 := by
  have HR := Lib.hid R
  have hbl : b.data.toList.length = b.size := by simp
  have c2 := R.down
  have c1 := R.max
  have hus := R.small
  clear R
  unfold RDoes
  cases hd : M.down
  · rw [hd] at c2
    cases hn : DiskM.named s.data.toList
    · rw [rappend_no (.inr (.inl ⟨hd, hn, rfl⟩))]
      have HNM : Hid (∀ W, _) := fun W => rnamed_any s W
      have HN := Lib.hid hn
      clear hd hn hfew hsm hr hmax
      go_enter Try.func13, Try.ntmps13
      go_wp2_with fail
      go_at_call 37
      refine (HNM.out _).mono ?_
      rintro e w' ⟨rfl, rfl⟩
      rw [HN.out]
      go_wp2_with fail
      go_ret
      exact ⟨rfl, ⟨h, HR.out, .inl rfl⟩, Only.refl _ _⟩
    · obtain ⟨u, hu⟩ : ∃ u, DiskM.used M.l = u := ⟨_, rfl⟩
      obtain ⟨m, hm⟩ : ∃ m, M.max = m := ⟨_, rfl⟩
      have HNM : Hid (∀ W, _) := fun W => rnamed_any s W
      have HN := Lib.hid hn
      have HUS : Hid (∀ W, RD W g h M → Calls Try.prog 27 #[.pointer (some ⟨g, 0, none⟩)] W fun e w' => e = .returned (.int .i64 (u : Int)) ∧ W = w') := fun W RW => by rw [← hu]; exact used_any W g h M RW
      have b1 : (b.size : Int) ≤ 4096 := by omega
      have b2 : (u : Int) ≤ 16777216 := by omega
      have b3 : (m : Int) ≤ 16777216 := by omega
      have hsubw : IntKind.i64.wrap ((m : Int) - (u : Int)) = (m : Int) - (u : Int) := by rw [IntKind.wrap_i64]; omega
      by_cases hfull : (M.max : Int) < DiskM.used M.l + b.data.toList.length
      · rw [rappend_no (.inr (.inr ⟨hd, hn, hfull, rfl⟩))]
        rw [hm, hu, hbl] at hfull
        rw [hm] at c1
        have hfull2 : (m : Int) - (u : Int) < (b.size : Int) := by omega
        clear hd hn hfew hsm hr hmax hu hm hus hb
        go_enter Try.func13, Try.ntmps13
        go_wp2_with fail
        go_at_call 37
        refine (HNM.out _).mono ?_
        rintro e w' ⟨rfl, rfl⟩
        rw [HN.out]
        go_wp2_with fail
        go_region_held3 (fun W => RD W g h M ∧ W.cell? ⟨g, 1, none⟩ = some (.int .i64 (m : Int))) (first | exact ⟨HR.out.drew, c1⟩ | assumption) (first | (go_at_call 27; refine (HUS.out _ (by first | exact HR.out.drew | exact And.left (by assumption))).mono ?_; rintro e w' ⟨rfl, rfl⟩))
        go_wp2_with fail
        go_ret
        exact ⟨rfl, ⟨h, HR.out.drew, .inl rfl⟩, (Only.refl _ _).drew⟩
      · obtain ⟨b0, sy, heq, hl0, hcase⟩ := rappend_yes (b := b.data.toList) hd hn (by omega)
        rw [heq] at hfew hsm ⊢
        have hnf : (b.size : Int) ≤ (m : Int) - (u : Int) := by omega
        have hln0 := DiskM.len_le M.l s.data.toList
        have hpl : (DiskM.put M.l ⟨s.data.toList, [], 0⟩).length ≤ 1000 := by
          have e1 := (DiskM.used_put (l := M.l) ⟨s.data.toList, [], 0⟩ hr).2
          have e2 := (DiskM.used_put (l := M.l) ⟨s.data.toList, b0 ++ b.data.toList, sy⟩ hr).2
          have e3 : (DiskM.put M.l ⟨s.data.toList, b0 ++ b.data.toList, sy⟩).length ≤ 1000 := hfew
          rw [e2] at e3
          rw [e1]
          exact e3
        have hmd := made_any w.drew g h M HR.out.drew s hr hpl
        have HMD := Lib.hid hmd
        have hb0 : b0.length ≤ 16777216 := by omega
        have HB0 := Lib.hid hb0
        have HBB := Lib.hid hb
        have HCS := Lib.hid hcase
        have HSM := Lib.hid hsm
        rw [hm] at c1
        clear hd hn hfew hsm hr hmax hu hm hus hb hfull heq hl0 hcase hln0 hpl hmd hb0
        go_enter Try.func13, Try.ntmps13
        go_wp2_with fail
        go_at_call 37
        refine (HNM.out _).mono ?_
        rintro e w' ⟨rfl, rfl⟩
        rw [HN.out]
        go_wp2_with fail
        go_region_held3 (fun W => RD W g h M ∧ W.cell? ⟨g, 1, none⟩ = some (.int .i64 (m : Int))) (first | exact ⟨HR.out.drew, c1⟩ | assumption) (first | (go_at_call 27; refine (HUS.out _ (by first | exact HR.out.drew | exact And.left (by assumption))).mono ?_; rintro e w' ⟨rfl, rfl⟩))
        go_wp2_with fail
        go_at_call 38
        refine HMD.out.mono ?_
        rintro e w2 ⟨k, h', l, b1, s1, rfl, hlk, R2, hh, ho, hput, hc1⟩
        obtain ⟨e1, e2⟩ := one_case HCS.out hc1
        subst e1 e2
        obtain ⟨hkl, hlk⟩ := List.getElem?_eq_some_iff.1 hlk
        obtain ⟨A, c, c0, hc, hA⟩ := R2.l
        have hA' : A = some ⟨h', 0, none⟩ := by
          rcases hA with ⟨_, z⟩ | z
          · have hc' : l.length ≤ c := hc
            omega
          · exact z
        subst hA'
        have f1 := R2.row.each k 1 hkl (by omega)
        have fr := (R2.row.2 k hkl).2.2.2 (k * 3 + 1)
        obtain ⟨B, hBB⟩ : ∃ B : ByteArray, (⟨b0.toArray⟩ : ByteArray) = B := ⟨_, rfl⟩
        have f1' : w2.cell? ⟨h', k * 3 + 1, none⟩ = some (.string B) := by
          rw [f1, hlk, ← hBB]
          rfl
        have hBs : B.size = b0.length := by rw [← hBB]; rfl
        have za : ¬ 9223372036854775807 < B.size + b.size := by have := HB0.out; have := HBB.out; omega
        have hcell : fcell ⟨s.data.toList, b0 ++ b.data.toList, sy⟩ 1 = .string (B ++ b) := by
          have e : (B ++ b).data.toList = b0 ++ b.data.toList := by rw [← hBB]; simp
          show Value.string ⟨(b0 ++ b.data.toList).toArray⟩ = _
          rw [← e]
        have hF := R2.row.put k 1 hkl (by omega) ⟨s.data.toList, b0 ++ b.data.toList, sy⟩ (fun q hq hne => by
          have e : ({ M with l := l } : DiskM.D).l[k] = ⟨s.data.toList, b0, sy⟩ := hlk
          rw [e]
          rcases (by omega : q = 0 ∨ q = 2) with rfl | rfl
          · rfl
          · rfl)
        rw [hcell] at hF
        have hps : l.set k ⟨s.data.toList, b0 ++ b.data.toList, sy⟩ = DiskM.put M.l ⟨s.data.toList, b0 ++ b.data.toList, sy⟩ := hput _ rfl
        have HRF := Lib.hid (R2.row_put (k * 3 + 1) _ _ (by simp) hF (by rw [hps]; exact HSM.out))
        have HO := Lib.hid ho
        have HH := Lib.hid hh
        have HPS := Lib.hid hps
        obtain ⟨n, hn⟩ : ∃ n, l.length = n := ⟨_, rfl⟩
        have c0' : w2.cell? ⟨g, 0, none⟩ = some (.slice (some ⟨h', 0, none⟩) n c) := by rw [← hn]; exact c0
        have hc' : n ≤ c := by rw [← hn]; exact hc
        have k0 : (0 : Int) ≤ (k : Int) := by omega
        have k1 : (k : Int) < (n : Int) := by omega
        clear hlk R2 hh ho hput hc1 hc hA f1 hBB hBs hcell hF hps hn c0 hkl
        go_wp2_with fail
        go_region
        go_wp2_with fail
        go_ret
        refine ⟨rfl, ⟨h', ?_, HH.out⟩, ?_⟩
        · have := HRF.out.drew
          rw [HPS.out] at this
          exact this
        · refine (((Only.refl (fun k => k = g ∨ k = h) w).drew).trans ((HO.out.setCell (p := ⟨h', k * 3 + 1, none⟩) ?_ _).drew) fun k hk => .inl hk)
          rcases HH.out with z | z
          · exact .inl (.inr z)
          · exact .inr z
  · rw [hd] at c2
    rw [rappend_no (.inl ⟨hd, rfl⟩)]
    clear hd hfew hsm hr hmax
    go_enter Try.func13, Try.ntmps13
    go_wp2_with fail
    go_ret
    exact ⟨rfl, ⟨h, HR.out, .inl rfl⟩, Only.refl _ _⟩
end Go.Proofs.Ythclaolmmlgalaa
