/- The law SkipMany: its names; so many put, put again, taken away. -/
import Derived.Test.YtopnbfhkfagemaaDoorSkLaw
namespace Go.Proofs.YtopnbfhkfagemaaDoor
open Go.RowKit
set_option linter.unusedVariables false
/-- The law's names. -/
def nmS (i : Nat) : List UInt8 := [UInt8.ofNat i, UInt8.ofNat (i / 256)]
theorem nmS_inj {i j : Nat} (hi : i < 65536) (hj : j < 65536) (h : nmS i = nmS j) : i = j := by
  unfold nmS at h
  injection h with h1 h
  injection h with h2 _
  have a := congrArg UInt8.toNat h1
  have b := congrArg UInt8.toNat h2
  rw [UInt8.toNat_ofNat', UInt8.toNat_ofNat'] at a b
  omega
theorem name_any (i : Nat) (hi : i ≤ 400) (w : World) :
    Calls Tryd.prog 23 #[.int .i64 (i : Int)] w fun e w' => e = .returned (.string ⟨(nmS i).toArray⟩) ∧ Below w.heap.size w w' := by
  have i0 : (0 : Int) ≤ (i : Int) := by omega
  have i1 : (i : Int) ≤ 400 := by omega
  have cells : #[Value.int .u8 ((i : Int) % 256), .int .u8 ((i : Int) / 256)] = ((nmS i).map bv).toArray := by
    have x1 : ((UInt8.ofNat i).toNat : Int) = (i : Int) % 256 := by rw [UInt8.toNat_ofNat']; omega
    have x2 : ((UInt8.ofNat (i / 256)).toNat : Int) = (i : Int) / 256 := by rw [UInt8.toNat_ofNat']; omega
    simp only [nmS, List.map_cons, List.map_nil, bv, x1, x2]
  have cv : (convert 51 9 (.slice (some ⟨w.heap.size, 0, none⟩) 2 2)).run Tryd.prog (w.alloc (.cells #[Value.int .u8 ((i : Int) % 256), .int .u8 ((i : Int) / 256)] 5)) = .ok (.string ⟨(nmS i).toArray⟩) (w.alloc (.cells #[Value.int .u8 ((i : Int) % 256), .int .u8 ((i : Int) / 256)] 5)) :=
    convert_n 2 2 rfl (Bs.new w _ 5 (0, 0) (nmS i) cells)
  obtain ⟨a, ha⟩ : ∃ a, (i : Int) % 256 = a := ⟨_, rfl⟩
  obtain ⟨b, hb⟩ : ∃ b, (i : Int) / 256 = b := ⟨_, rfl⟩
  have b0 : 0 ≤ b := by omega
  have b1 : b ≤ 255 := by omega
  rw [ha, hb] at cv
  have HCV := Lib.hid cv
  have hw : IntKind.u8.wrap (i : Int) = a := by rw [← ha]; simp [IntKind.wrap, IntKind.bits, IntKind.signed]
  clear cells cv
  go_enter Tryd.func23, Tryd.ntmps23
  go_wp2_with fail
  rw [HCV.out]
  go_wp2_with fail
  go_ret
  exact ⟨rfl, (Below.refl _ w).alloc (Nat.le_refl _) _⟩
/-- The names P of the law's are there, n in all. -/
structure Mst (l : List SkM.E) (P : Nat → Prop) (n : Nat) : Prop where
  len : l.length = n
  has : ∀ j, j < 400 → ((SkM.get l (nmS j)).isSome = true ↔ P j)
theorem Mst.put1 {l : List SkM.E} {i : Nat} (ok : SkM.Ok l) (h : Mst l (fun j => j < i) i) (hi : i < 400) (v : Int) : (SkM.get l (nmS i)).isNone = true ∧ Mst (SkM.put l (nmS i) v) (fun j => j < i + 1) (i + 1) := by
  have no : ¬ (SkM.get l (nmS i)).isSome = true := fun e => absurd ((h.has i hi).1 e) (by omega)
  refine ⟨by cases e : SkM.get l (nmS i) with | none => rfl | some v => rw [e] at no; exact absurd rfl no, ?_, fun j hj => ?_⟩
  · rw [SkM.put_len ok, if_neg no, h.len]
  · rw [SkM.get_put ok]
    by_cases e : nmS i = nmS j
    · have := nmS_inj (by omega) (by omega) e
      rw [if_pos e]
      exact ⟨fun _ => by omega, fun _ => rfl⟩
    · rw [if_neg e, h.has j hj]
      have : i ≠ j := fun x => e (by rw [x])
      omega
theorem Mst.put2 {l : List SkM.E} {i k : Nat} (ok : SkM.Ok l) (h : Mst l (fun j => j < k) k) (hi : i < k) (hk : k ≤ 400) (v : Int) : (SkM.get l (nmS i)).isNone = false ∧ Mst (SkM.put l (nmS i) v) (fun j => j < k) k := by
  have yes : (SkM.get l (nmS i)).isSome = true := (h.has i (by omega)).2 hi
  refine ⟨by cases e : SkM.get l (nmS i) with | none => rw [e] at yes; cases yes | some v => rfl, ?_, fun j hj => ?_⟩
  · rw [SkM.put_len ok, if_pos yes, h.len]
  · rw [SkM.get_put ok]
    by_cases e : nmS i = nmS j
    · have := nmS_inj (by omega) (by omega) e
      rw [if_pos e]
      exact ⟨fun _ => by omega, fun _ => rfl⟩
    · rw [if_neg e, h.has j hj]
theorem Mst.del1 {l : List SkM.E} {i k : Nat} (ok : SkM.Ok l) (h : Mst l (fun j => i ≤ j ∧ j < k) (k - i)) (hi : i < k) (hk : k ≤ 400) : (SkM.get l (nmS i)).isSome = true ∧ Mst (SkM.del l (nmS i)) (fun j => i + 1 ≤ j ∧ j < k) (k - (i + 1)) := by
  have yes : (SkM.get l (nmS i)).isSome = true := (h.has i (by omega)).2 ⟨Nat.le_refl _, hi⟩
  refine ⟨yes, ?_, fun j hj => ?_⟩
  · have := SkM.del_length ok (nmS i)
    rw [if_pos yes, h.len] at this
    omega
  · rw [SkM.get_del ok]
    by_cases e : nmS i = nmS j
    · have := nmS_inj (by omega) (by omega) e
      rw [if_pos e]
      exact ⟨fun x => (nomatch x), fun _ => by omega⟩
    · rw [if_neg e, h.has j hj]
      have : i ≠ j := fun x => e (by rw [x])
      omega
theorem Mst.del2 {l : List SkM.E} {i k n : Nat} (ok : SkM.Ok l) (h : Mst l (fun j => i + 1 ≤ j ∧ j < k) n) (hi : i < 400) : (SkM.get l (nmS i)).isSome = false ∧ SkM.del l (nmS i) = l := by
  have no : ¬ (SkM.get l (nmS i)).isSome = true := fun e => absurd ((h.has i hi).1 e) (by omega)
  have e : SkM.get l (nmS i) = none := by cases e : SkM.get l (nmS i) with | none => rfl | some v => rw [e] at no; exact absurd rfl no
  exact ⟨by rw [e]; rfl, SkM.del_none e⟩
theorem nmS_lim (i : Nat) : (⟨(nmS i).toArray⟩ : ByteArray).size ≤ lim := by show 2 ≤ lim; decide
theorem mod_nat (t : Int) (n : Nat) (hn : 0 < n) (hb : n ≤ 1048576) : ∃ k : Nat, k < n ∧ (IntKind.u64.wrap t).tmod (n : Int) = (k : Int) := by
  have h : 0 ≤ IntKind.u64.wrap t := by rw [IntKind.wrap_u64]; omega
  rw [Int.tmod_eq_emod_of_nonneg h]
  have p := Int.emod_lt_of_pos (IntKind.u64.wrap t) (show (0 : Int) < (n : Int) by omega)
  have q := Int.emod_nonneg (IntKind.u64.wrap t) (show (n : Int) ≠ 0 by omega)
  exact ⟨(IntKind.u64.wrap t % (n : Int)).toNat, by omega, by omega⟩
set_option maxRecDepth 20000 in
set_option maxHeartbeats 1000000 in
theorem many_walk (w : World) (tz : Tz w) (n r : Int) :
    Calls Tryd.prog 5 #[.int .i64 n, .int .i64 r] w fun e w' => e = .returned (.bool true) ∧ Below w.heap.size w w' := by
  have TZ := Lib.hid tz
  obtain ⟨k1, hk1, ek⟩ := mod_nat n 400 (by decide) (by decide)
  obtain ⟨m1, hm1, em⟩ := mod_nat r 50 (by decide) (by decide)
  replace ek : (IntKind.u64.wrap n).tmod 400 = (k1 : Int) := ek
  replace em : (IntKind.u64.wrap r).tmod 50 = (m1 : Int) := em
  obtain ⟨K, hK⟩ : ∃ K, 1 + k1 = K := ⟨_, rfl⟩
  obtain ⟨M, hM⟩ : ∃ M, 1 + m1 = M := ⟨_, rfl⟩
  have ek1 : wrap64 (k1 : Int) = (k1 : Int) := by unfold wrap64; omega
  have em1 : wrap64 (m1 : Int) = (m1 : Int) := by unfold wrap64; omega
  have ek2 : wrap64 (1 + (k1 : Int)) = (K : Int) := by unfold wrap64; omega
  have em2 : wrap64 (1 + (m1 : Int)) = (M : Int) := by unfold wrap64; omega
  have HK : Hid (1 ≤ K ∧ K ≤ 400) := by show _ ∧ _; omega
  have K9 : (K : Int) ≤ 400 := by omega
  have M0 : (0 : Int) < (M : Int) := by omega
  have M9 : (M : Int) ≤ 50 := by omega
  have MN : ¬ M = 0 := by omega
  clear tz hk1 hm1 hK hM
  go_enter Tryd.func5, Tryd.ntmps5
  go_wp2_with fail
  go_at_call 22
  refine (sst_new w (Below.refl _ w) TZ.out).mono ?_
  rintro e w1 ⟨p, rfl, h1⟩
  have H1 := Lib.hid h1
  clear h1
  go_wp2_with fail
  clear ek em ek1 em1 ek2 em2
  go_loopw [9] (fun v wr => ∃ (i : Nat) (l : List SkM.E), i ≤ K ∧ v = .int .i64 (i : Int) ∧ SSt w wr p l ∧ Mst l (fun j => j < i) i) (fun v _ => K - (intOf v).toNat)
  case atStart => exact ⟨0, [], Nat.zero_le _, rfl, H1.out, ⟨rfl, fun j _ => ⟨fun h => (nomatch h), fun h => absurd h (Nat.not_lt_zero _)⟩⟩⟩
  case round =>
    obtain ⟨i, l, hi, rfl, hst, hm⟩ := hrel
    have HST := Lib.hid hst
    have HM := Lib.hid hm
    have i0 : (0 : Int) ≤ (i : Int) := by omega
    clear H1 hst hm
    by_cases hlt : i < K
    · have i1 : (i : Int) < (K : Int) := by omega
      have I9 : Hid (i < 400) := by show i < 400; have := HK.out; omega
      have LE : Hid (l.length ≤ 400) := by show l.length ≤ 400; rw [HM.out.len]; have := I9.out; omega
      obtain ⟨t, ht⟩ : ∃ t, (i : Int).tmod (M : Int) = t := ⟨_, rfl⟩
      have PUT := Lib.hid (HM.out.put1 HST.out.ok I9.out t)
      have NX := Lib.hid hlt
      clear hi hlt
      go_wp2_with fail
      refine wp_region_held_drew (S := fun _ => True) (by kernel_rfl) trivial (fun hH0 => ?_)
      refine wpAnyH_take (i := 0) (v := ?_) rfl (by kernel_rfl) (by kernel_rfl) (by kernel_rfl) (fun _ _ _ h => h) (Or.inl ⟨by rfl, ?_⟩) hH0 ?_
      rotate_left
      · intro W hSw; go_simp; try with_reducible rfl
      refine wpAnyH_take (i := 1) (v := ?_) rfl (by kernel_rfl) (by kernel_rfl) (by kernel_rfl) (fun _ _ _ h => h) (Or.inl ⟨by rfl, ?_⟩) hH0 ?_
      rotate_left
      · intro W hSw; go_simp; try with_reducible rfl
      refine wpAnyH_take (i := 2) (v := ?_) rfl (by kernel_rfl) (by kernel_rfl) (by kernel_rfl) (fun _ _ _ h => h) (Or.inl ⟨by rfl, ?_⟩) hH0 ?_
      rotate_left
      · intro W hSw; go_simp; try with_reducible rfl
      refine wpAnyH_take (i := 4) (v := ?_) rfl (by kernel_rfl) (by kernel_rfl) (by kernel_rfl) (fun _ _ _ h => h) (Or.inl ⟨by rfl, ?_⟩) hH0 ?_
      rotate_left
      · intro W hSw; go_simp; try with_reducible rfl
      refine wpAnyH_take (i := 5) (v := ?_) rfl (by kernel_rfl) (by kernel_rfl) (by kernel_rfl) (fun _ _ _ h => h) (Or.inl ⟨by rfl, ?_⟩) hH0 ?_
      rotate_left
      · intro W hSw; go_simp; try with_reducible rfl
      refine wpAnyH_take (i := 6) (v := ?_) rfl (by kernel_rfl) (by kernel_rfl) (by kernel_rfl) (fun _ _ _ h => h) (Or.inl ⟨by rfl, ?_⟩) hH0 ?_
      rotate_left
      · intro W hSw; go_simp; try with_reducible rfl
      refine wpAnyH_ready (rs := [3]) (by kernel_rfl) (by simp) ?_
      refine AllReadyH.cons rfl (fun K hK => ?_) AllReadyH.nil
      go_simp
      go_at_call 23
      refine (name_any i (by have := I9.out; omega) _).mono ?_
      rintro e wa1 ⟨rfl, hba⟩
      have SA1 := Lib.hid (HST.out.keep ((Below.refl _ _).drew) |>.keep hba)
      clear hba
      refine hK.out _ _ trivial (fun hH1 => ?_)
      clear hK K hH0
      refine wpAnyH_ready (rs := [7]) (by kernel_rfl) (by simp) ?_
      refine AllReadyH.cons rfl (fun K hK => ?_) AllReadyH.nil
      go_simp
      go_at_call 10
      refine (SA1.out.put ⟨(nmS i).toArray⟩ (nmS_lim i) t (by have := LE.out; omega)).mono ?_
      rintro e wb ⟨rfl, hsb⟩
      rw [PUT.out.1]
      have SB := Lib.hid hsb
      clear hsb
      refine hK.out _ _ trivial (fun hH2 => ?_)
      clear hK K hH1
      refine wpAnyH_take (i := 8) (v := ?_) rfl (by kernel_rfl) (by kernel_rfl) (by kernel_rfl) (fun _ _ _ h => h) (Or.inl ⟨by rfl, ?_⟩) hH2 ?_
      rotate_left
      · intro W hSw; go_simp; try with_reducible rfl
      refine wpAnyH_done (by kernel_rfl) ?_ _
      clear hH2
      go_wp2_with fail
      refine ⟨⟨i + 1, _, NX.out, by go_num, SB.out, PUT.out.2⟩, by have := NX.out; simp [intOf]; omega⟩
    · obtain rfl : i = K := by omega
      clear hlt hi
      go_wp2_with fail
      go_loopw [10] (fun v wr => ∃ (j : Nat) (l : List SkM.E), j ≤ i ∧ v = .int .i64 (j : Int) ∧ SSt w wr p l ∧ Mst l (fun j => j < i) i) (fun v _ => i - (intOf v).toNat)
      case atStart => exact ⟨0, l, Nat.zero_le _, rfl, HST.out, HM.out⟩
      case round =>
        obtain ⟨j, l2, hj, rfl, hst, hm⟩ := hrel
        have HST2 := Lib.hid hst
        have HM2 := Lib.hid hm
        have j0 : (0 : Int) ≤ (j : Int) := by omega
        clear HST HM hst hm
        by_cases hlt : j < i
        · have j1 : (j : Int) < (i : Int) := by omega
          have J9 : Hid (j < 400) := by show j < 400; have := HK.out; omega
          have LE2 : Hid (l2.length ≤ 400) := by show l2.length ≤ 400; rw [HM2.out.len]; have := HK.out; omega
          have hneg : IntKind.i64.wrap (-(j : Int)) = -(j : Int) := by simp [IntKind.wrap, IntKind.bits, IntKind.signed]; have := J9.out; omega
          obtain ⟨t, ht⟩ : ∃ t, (-(j : Int)).tmod (M : Int) = t := ⟨_, rfl⟩
          have PUT2 := Lib.hid (HM2.out.put2 HST2.out.ok hlt (by have := HK.out; omega) t)
          have NX := Lib.hid hlt
          clear hj hlt
          go_wp2_with fail
          refine wp_region_held_drew (S := fun _ => True) (by kernel_rfl) trivial (fun hH0 => ?_)
          refine wpAnyH_take (i := 0) (v := ?_) rfl (by kernel_rfl) (by kernel_rfl) (by kernel_rfl) (fun _ _ _ h => h) (Or.inl ⟨by rfl, ?_⟩) hH0 ?_
          rotate_left
          · intro W hSw; go_simp; try with_reducible rfl
          refine wpAnyH_take (i := 1) (v := ?_) rfl (by kernel_rfl) (by kernel_rfl) (by kernel_rfl) (fun _ _ _ h => h) (Or.inl ⟨by rfl, ?_⟩) hH0 ?_
          rotate_left
          · intro W hSw; go_simp; try with_reducible rfl
          refine wpAnyH_take (i := 2) (v := ?_) rfl (by kernel_rfl) (by kernel_rfl) (by kernel_rfl) (fun _ _ _ h => h) (Or.inl ⟨by rfl, ?_⟩) hH0 ?_
          rotate_left
          · intro W hSw; go_simp; try with_reducible rfl
          refine wpAnyH_take (i := 4) (v := ?_) rfl (by kernel_rfl) (by kernel_rfl) (by kernel_rfl) (fun _ _ _ h => h) (Or.inl ⟨by rfl, ?_⟩) hH0 ?_
          rotate_left
          · intro W hSw; go_simp; try with_reducible rfl
          refine wpAnyH_take (i := 5) (v := ?_) rfl (by kernel_rfl) (by kernel_rfl) (by kernel_rfl) (fun _ _ _ h => h) (Or.inl ⟨by rfl, ?_⟩) hH0 ?_
          rotate_left
          · intro W hSw; go_simp; try with_reducible rfl
          refine wpAnyH_take (i := 6) (v := ?_) rfl (by kernel_rfl) (by kernel_rfl) (by kernel_rfl) (fun _ _ _ h => h) (Or.inl ⟨by rfl, ?_⟩) hH0 ?_
          rotate_left
          · intro W hSw; go_simp; try with_reducible rfl
          refine wpAnyH_take (i := 7) (v := ?_) rfl (by kernel_rfl) (by kernel_rfl) (by kernel_rfl) (fun _ _ _ h => h) (Or.inl ⟨by rfl, ?_⟩) hH0 ?_
          rotate_left
          · intro W hSw; go_simp; try with_reducible rfl
          refine wpAnyH_ready (rs := [3]) (by kernel_rfl) (by simp) ?_
          refine AllReadyH.cons rfl (fun K hK => ?_) AllReadyH.nil
          go_simp
          go_at_call 23
          refine (name_any j (by have := J9.out; omega) _).mono ?_
          rintro e wa1 ⟨rfl, hba⟩
          have SA1 := Lib.hid (HST2.out.keep ((Below.refl _ _).drew) |>.keep hba)
          clear hba
          refine hK.out _ _ trivial (fun hH1 => ?_)
          clear hK K hH0
          refine wpAnyH_ready (rs := [8]) (by kernel_rfl) (by simp) ?_
          refine AllReadyH.cons rfl (fun K hK => ?_) AllReadyH.nil
          go_simp
          go_at_call 10
          refine (SA1.out.put ⟨(nmS j).toArray⟩ (nmS_lim j) t (by have := LE2.out; omega)).mono ?_
          rintro e wb ⟨rfl, hsb⟩
          rw [PUT2.out.1]
          have SB := Lib.hid hsb
          clear hsb
          refine hK.out _ _ trivial (fun hH2 => ?_)
          clear hK K hH1
          refine wpAnyH_take (i := 9) (v := ?_) rfl (by kernel_rfl) (by kernel_rfl) (by kernel_rfl) (fun _ _ _ h => h) (Or.inl ⟨by rfl, ?_⟩) hH2 ?_
          rotate_left
          · intro W hSw; go_simp; try with_reducible rfl
          refine wpAnyH_take (i := 10) (v := ?_) rfl (by kernel_rfl) (by kernel_rfl) (by kernel_rfl) (fun _ _ _ h => h) (Or.inl ⟨by rfl, ?_⟩) hH2 ?_
          rotate_left
          · intro W hSw; go_simp; try with_reducible rfl
          refine wpAnyH_take (i := 12) (v := ?_) rfl (by kernel_rfl) (by kernel_rfl) (by kernel_rfl) (fun _ _ _ h => h) (Or.inl ⟨by rfl, ?_⟩) hH2 ?_
          rotate_left
          · intro W hSw; go_simp; try with_reducible rfl
          refine wpAnyH_ready (rs := [11]) (by kernel_rfl) (by simp) ?_
          refine AllReadyH.cons rfl (fun K hK => ?_) AllReadyH.nil
          go_simp
          go_at_call 14
          obtain ⟨⟨G, hr, hg⟩, -⟩ := SB.out
          refine (rlen hr).mono ?_
          rintro e wc ⟨rfl, hbc⟩
          rw [show ((SkM.put l2 (⟨(nmS j).toArray⟩ : ByteArray).data.toList t).length : Int) = (i : Int) from by rw [PUT2.out.2.len]]
          have SC := Lib.hid (SB.out.keep hbc)
          clear hbc hr hg
          refine hK.out _ _ trivial (fun hH3 => ?_)
          clear hK K hH2
          refine wpAnyH_take (i := 13) (v := ?_) rfl (by kernel_rfl) (by kernel_rfl) (by kernel_rfl) (fun _ _ _ h => h) (Or.inl ⟨by rfl, ?_⟩) hH3 ?_
          rotate_left
          · intro W hSw; go_simp; try with_reducible rfl
          refine wpAnyH_take (i := 14) (v := ?_) rfl (by kernel_rfl) (by kernel_rfl) (by kernel_rfl) (fun _ _ _ h => h) (Or.inl ⟨by rfl, ?_⟩) hH3 ?_
          rotate_left
          · intro W hSw; go_simp; try with_reducible rfl
          refine wpAnyH_done (by kernel_rfl) ?_ _
          clear hH3
          go_wp2_with fail
          refine ⟨⟨j + 1, _, NX.out, by go_num, SC.out, PUT2.out.2⟩, by have := NX.out; simp [intOf]; omega⟩
        · obtain rfl : j = i := by omega
          clear hlt hj
          go_wp2_with fail
          go_loopw [11] (fun v wr => ∃ (i : Nat) (l : List SkM.E), i ≤ j ∧ v = .int .i64 (i : Int) ∧ SSt w wr p l ∧ Mst l (fun x => i ≤ x ∧ x < j) (j - i)) (fun v _ => j - (intOf v).toNat)
          case atStart => exact ⟨0, l2, Nat.zero_le _, rfl, HST2.out, ⟨HM2.out.len, fun x hx => by rw [HM2.out.has x hx]; exact ⟨fun h => ⟨Nat.zero_le _, h⟩, fun h => h.2⟩⟩⟩
          case round =>
            obtain ⟨i, l3, hi, rfl, hst, hm⟩ := hrel
            have HST3 := Lib.hid hst
            have HM3 := Lib.hid hm
            have i0 : (0 : Int) ≤ (i : Int) := by omega
            clear HST2 HM2 hst hm
            by_cases hlt : i < j
            · have i1 : (i : Int) < (j : Int) := by omega
              have I9 : Hid (i < 400) := by show i < 400; have := HK.out; omega
              have D1 := Lib.hid (HM3.out.del1 HST3.out.ok hlt HK.out.2)
              have D2 := Lib.hid (D1.out.2.del2 (HST3.out.ok.del _) I9.out)
              have NX := Lib.hid hlt
              clear hi hlt
              go_wp2_with fail
              go_at_call 23
              refine (name_any i (by have := I9.out; omega) _).mono ?_
              rintro e wa ⟨rfl, hba⟩
              have SA := Lib.hid (HST3.out.keep hba)
              clear hba
              go_wp2_with fail
              go_at_call 12
              refine (SA.out.del ⟨(nmS i).toArray⟩ (nmS_lim i)).mono ?_
              rintro e wb ⟨rfl, hsb⟩
              rw [show (SkM.get l3 (⟨(nmS i).toArray⟩ : ByteArray).data.toList).isSome = true from D1.out.1]
              have SB : Hid (SSt w wb p (SkM.del l3 (nmS i))) := hsb
              clear hsb
              go_wp2_with fail
              go_at_call 23
              refine (name_any i (by have := I9.out; omega) _).mono ?_
              rintro e wc ⟨rfl, hbc⟩
              have SC := Lib.hid (SB.out.keep hbc)
              clear hbc
              go_wp2_with fail
              go_at_call 12
              refine (SC.out.del ⟨(nmS i).toArray⟩ (nmS_lim i)).mono ?_
              rintro e wd ⟨rfl, hsd⟩
              rw [show (SkM.get (SkM.del l3 (nmS i)) (⟨(nmS i).toArray⟩ : ByteArray).data.toList).isSome = false from D2.out.1]
              have SD : Hid (SSt w wd p (SkM.del l3 (nmS i))) := by have h : SSt w wd p (SkM.del (SkM.del l3 (nmS i)) (nmS i)) := hsd; rw [D2.out.2] at h; exact h
              clear hsd
              go_wp2_with fail
              refine ⟨⟨i + 1, _, NX.out, by go_num, SD.out, D1.out.2⟩, by have := NX.out; simp [intOf]; omega⟩
            · obtain rfl : i = j := by omega
              clear hlt hi
              have el : l3 = [] := List.eq_nil_of_length_eq_zero (by have := HM3.out.len; omega)
              subst el
              go_wp2_with fail
              go_at_call 7
              refine (told_any _ (TZ.out.below HST3.out.below)).mono ?_
              rintro e wa ⟨rfl, hba⟩
              have SA := Lib.hid (HST3.out.keep hba)
              clear hba
              go_wp2_with fail
              go_at_call 14
              obtain ⟨⟨G, hr, hg⟩, -⟩ := SA.out
              refine (rlen hr).mono ?_
              rintro e wb ⟨rfl, hbb⟩
              have SB := Lib.hid (SA.out.keep hbb)
              rw [show ((([] : List SkM.E).length : Nat) : Int) = 0 from rfl]
              clear hbb hr hg
              go_wp2_with fail
              go_at_call 17
              obtain ⟨⟨G, hr, hg⟩, -⟩ := SB.out
              refine (rall hr).mono ?_
              rintro e wc ⟨⟨v, rfl, A, c, rfl, -, -, -⟩, hbc⟩
              have SC := Lib.hid (SB.out.keep hbc)
              rw [show (([] : List SkM.E).length) = 0 from rfl]
              clear hbc hr hg
              go_wp2_with fail
              go_at_call 21
              obtain ⟨⟨G, hr, hg⟩, -⟩ := SC.out
              refine (rbelow hr 4611686018427387904).mono ?_
              rintro e wd ⟨rfl, hbd⟩
              have SD := Lib.hid (SC.out.keep hbd)
              rw [show (((([] : List SkM.E).takeWhile fun a => decide (a.2 < 4611686018427387904)).length : Nat) : Int) = 0 from rfl]
              clear hbd hr hg
              go_wp2_with fail
              go_ret
              exact ⟨rfl, SD.out.below⟩
end Go.Proofs.YtopnbfhkfagemaaDoor
