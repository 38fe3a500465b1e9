/- The document's own disk: Crash. -/
import Derived.Test.YthclaolmmlgalaaRefCrashA
namespace Go.Proofs.Ythclaolmmlgalaa
open Go.RowKit
set_option linter.unusedVariables false

set_option maxRecDepth 20000 in
set_option maxHeartbeats 8000000 in
theorem rcrash_true (w : World) (g h : Nat) (M : DiskM.D) (R : RD w g h M) (keep : Int) (hok : ∀ x ∈ M.l, x.sync ≤ x.b.length ∧ x.b.length ≤ 16777216) :
    RDoes 23 #[.pointer (some ⟨g, 0, none⟩), .int .i64 keep, .bool true] (.tuple #[]) w g h (DiskM.crash M keep true) := by
  have HR := Lib.hid R
  have cd := R.down
  have fd := R.free 2
  unfold RDoes DiskM.crash
  cases hd : M.down
  · rw [if_neg (by decide)]
    rw [hd] at cd
    have HOK := Lib.hid hok
    obtain ⟨n, hn⟩ : ∃ n, M.l.length = n := ⟨_, rfl⟩
    have HN := Lib.hid hn
    have n9 : (n : Int) ≤ 1000 := by have := R.few; omega
    have HST := Lib.hid (R.down_put true)
    clear hd hok hn R
    go_enter Try.func23, Try.ntmps23
    go_wp2_with fail
    go_loopw [6] (fun i wr => ∃ j : Nat, j ≤ n ∧ i = .int .i64 j ∧ RD wr g h ⟨rhalf keep true M.l j, M.max, true⟩ ∧ Only (fun k => k = g ∨ k = h) w wr) (fun i _ => n - (intOf i).toNat)
    case atStart => exact ⟨0, Nat.zero_le _, rfl, HST.out, (Only.refl (fun k => k = g ∨ k = h) w).setCell (p := ⟨g, 2, none⟩) (.inl (.inl rfl)) _⟩
    case round =>
      obtain ⟨j, hj, rfl, R, hO⟩ := hrel
      obtain ⟨w1, hw1⟩ : ∃ w1, w1 = wr := ⟨_, rfl⟩
      subst hw1
      have HR2 := Lib.hid R
      have HO := Lib.hid hO
      have j0 : (0 : Int) ≤ (j : Int) := by omega
      obtain ⟨A, c, c0, hc, hA⟩ := R.l
      have hhl : (rhalf keep true M.l j).length = n := by rw [rhalf_len _ _ _ _ (by rw [HN.out]; exact hj), HN.out]
      have c0' : w1.cell? ⟨g, 0, none⟩ = some (.slice A n c) := by rw [← hhl]; exact c0
      have hc' : (n : Int) ≤ (c : Int) := by have : (rhalf keep true M.l j).length ≤ c := hc; omega
      by_cases hlt : j < n
      · have j1 : (j : Int) < (n : Int) := by omega
        have hjl : j < M.l.length := by rw [HN.out]; exact hlt
        have hA' : A = some ⟨h, 0, none⟩ := by
          rcases hA with ⟨_, z⟩ | z
          · omega
          · exact z
        subst hA'
        obtain ⟨x, b, sy, nn, hjh, hx, hat, hstep, f1, f2, fr, hbd, hbl, hxy, hst, bb, d, hsub, hw1, d0, hnl, bn, nb, n0, e3, sn, key⟩ := crash_at HOK.out HN.out hlt R
        have HSTEP := Lib.hid hstep
        have HBD := Lib.hid hbd
        have HXY := Lib.hid hxy
        have HST2 := Lib.hid hst
        have HX := Lib.hid hx
        have HHL := Lib.hid hhl
        have HAT := Lib.hid hat
        have HBL := Lib.hid hbl
        have hhlt : h < w1.heap.size := R.row.1 (Nat.lt_of_lt_of_eq (Nat.lt_of_le_of_lt (Nat.zero_le j) hlt) HHL.out.symm)
        have fr1 := fr (j * 3 + 1)
        have fr2 := fr (j * 3 + 2)
        have HFR := Lib.hid fr
        clear R hO hA hc c0 hstep hbd hxy hst hx hhl hat hbl fr
        obtain ⟨W, c1, G, hcv, bW, hc1, hG, hown⟩ := conv_front w1 b nn hnl
        rw [HBD.out] at hown
        have nc1 : (nn : Int) ≤ (c1 : Int) := by exact Int.ofNat_le.2 hc1
        have hWh : W.cell? ⟨h, j * 3 + 2, none⟩ = some (.int .i64 (sy : Int)) := (bW.cell hhlt).trans f2
        have HBW := Lib.hid bW
        have HOWN := Lib.hid hown
        have HNL := Lib.hid hnl
        have HBN := Lib.hid bn
        clear bn bb
        have HLE : Hid (∀ la : Nat, la % 512 = 0 → (la = 0 ∨ la < nn) → nn ≤ la + 512 → ∃ m : Nat, m = max x.sync ((nn - 1) / 512 * 512) ∧ m ≤ nn ∧ (((la : Int) < (sy : Int) ∧ m = sy) ∨ ((sy : Int) ≤ (la : Int) ∧ m = la))) := fun la p1 p2 p3 => by
          rw [HXY.out]
          exact last_end p1 p2 p3 sn
        clear bW hown sn hnl hc1
        rcases key with ⟨h0, rfl⟩ | ⟨h0, h1, e2, e4⟩ | ⟨h0, h1, e2, e4⟩ | ⟨h0, h1, rfl⟩
        all_goals
          go_wp2_with fail
          go_region
          go_wp2_with fail
          go_loop [10] (fun i => ∃ la : Nat, i = .int .i64 la ∧ la % 512 = 0 ∧ (la = 0 ∨ la < nn)) (fun i => nn - (intOf i).toNat)
          case atStart => exact ⟨0, rfl, rfl, .inl rfl⟩
          case round =>
            try clear h0
            try clear h1
            try clear e2
            try clear e4
            try clear hw1
            try clear hsub
            try clear d0
            try clear nb
            try clear hcv
            clear j0
            obtain ⟨la, rfl, hm, hz⟩ := hrel
            obtain ⟨la9, la8, la0⟩ := last_step HBN.out hm hz
            have HM := Lib.hid hm
            have HZ := Lib.hid hz
            clear hm hz
            by_cases hq : la + 512 < nn
            · have hq1 := up_lt hq
              go_wp2_with fail
              go_round
              case rel => exact ⟨la + 512, by go_num, by have := HM.out; omega, .inr hq⟩
              case measure => simp [intOf]; exact up_less hq
            · obtain ⟨hq1, hq2⟩ := up_le hq
              obtain ⟨m, hm1, hmn, hcase⟩ := HLE.out la HM.out HZ.out hq2
              have HM1 := Lib.hid hm1
              have HMN := Lib.hid hmn
              clear hm1 hmn hq hq2
              rcases hcase with ⟨hl, em⟩ | ⟨hl, em⟩
              all_goals
                have HEM := Lib.hid em
                clear em
                go_wp2_with fail
                go_loopw [11] (fun i W' => ∃ (k : Nat) (l' : List UInt8), i = .int .i64 k ∧ m ≤ k ∧ k ≤ nn ∧ (true = false → k = m) ∧ turned m k (x.b.take nn) l' ∧ OwnF W' G l' ∧ Below w1.heap.size w1 W') (fun i _ => nn - (intOf i).toNat)
                case atStart => exact ⟨_, _, rfl, Nat.le_of_eq HEM.out, Nat.le_trans (Nat.le_of_eq HEM.out.symm) HMN.out, fun _ => HEM.out.symm, by rw [← HEM.out]; exact turned_start m _, HOWN.out, HBW.out⟩
                case round =>
                  try clear hl
                  try clear hq1
                  try clear la9
                  try clear la8
                  try clear la0
                  obtain ⟨k, l', rfl, hmk, hkn, hgb, ht, ho, hb'⟩ := hrel
                  have HMK := Lib.hid hmk
                  have HKN := Lib.hid hkn
                  have HGB := Lib.hid hgb
                  have HT := Lib.hid ht
                  have HOW := Lib.hid ho
                  have HB' := Lib.hid hb'
                  have hlen : l'.length = nn := by
                    rw [ht.1, List.length_take, HBL.out]
                    exact Nat.min_eq_left HNL.out
                  have HLEN := Lib.hid hlen
                  clear hmk hkn hgb ht ho hb' hlen
                  by_cases hgo : true = true ∧ k < nn
                  · obtain ⟨hg, hk⟩ := hgo
                    obtain ⟨k3, k4, k0, k1⟩ := byte_step HBN.out hk
                    have hkl : k < l'.length := by rw [HLEN.out]; exact hk
                    obtain ⟨cx, fx⟩ := HOW.out.2 k hkl
                    obtain ⟨y, hy⟩ : ∃ y, y = l'[k] := ⟨_, rfl⟩
                    rw [← hy] at cx
                    have HY := Lib.hid hy
                    have hbx : bits .xor .u8 (y.toNat : Int) 165 = ((y ^^^ 0xa5).toNat : Int) := b8_xor y 0xa5
                    have HP := Lib.hid (HOW.out.put k hkl (y ^^^ 0xa5))
                    have HTS := Lib.hid (turned_step HT.out HMK.out hkl)
                    clear hy hg
                    have HLT := Lib.hid hlt
                    have HGG := Lib.hid hG
                    have HHH := Lib.hid hhlt
                    have HKL := Lib.hid hkl
                    have HK := Lib.hid hk
                    clear HX HAT HSTEP HHL n9 hc' j1 n0 e3 hlt hj hjl hjh hhlt hG hk f1 f2 fr1 fr2 c0' hWh cd fd
                    go_wp2_with fail
                    go_roundw
                    case rel =>
                      have e : (y ^^^ 0xa5).toNat = y.toNat ^^^ 165 := by rw [UInt8.toNat_xor]; rfl
                      rw [e] at HP
                      refine ⟨k + 1, l'.set k (y ^^^ 0xa5), by go_num, Nat.le_succ_of_le HMK.out, HK.out, (by intro z; cases z), by rw [HY.out]; exact HTS.out, HP.out, HB'.out.setCell HGG.out _⟩
                    case measure => simp [intOf]; omega
                  · have hstop : (true = false ∧ k = m) ∨ (true = true ∧ nn ≤ k) := by
                      rcases bool_two true with z | z
                      · exact .inr ⟨z, by
                          rcases Nat.lt_or_ge k nn with q | q
                          · exact absurd ⟨z, q⟩ hgo
                          · exact q⟩
                      · exact .inl ⟨z, HGB.out z⟩
                    obtain ⟨eL, eLen, eN⟩ := crash_bytes HST2.out (by rw [HBL.out]; exact HNL.out) HM1.out HT.out hstop
                    have hcv2 := convert_n c1 nn eN HOW.out.reads
                    have hat1 := (HB'.out.cell hhlt).trans f1
                    have hat2 := (HB'.out.cell hhlt).trans f2
                    have hfr1 := (HB'.out.frozen hhlt).trans fr1
                    have hfr2 := (HB'.out.frozen hhlt).trans fr2
                    have HPUT := Lib.hid (crash_put HR2.out HB'.out hjh HAT.out HSTEP.out eL eLen HST2.out)
                    have HON := Lib.hid (((HO.out.trans (Only.of_below (F := fun k => k = g ∨ k = h) HB'.out) fun k hk => .inl hk).setCell (p := ⟨h, j * 3 + 1, none⟩) (.inl (.inr rfl)) (.string ⟨l'.toArray⟩)).setCell (p := ⟨h, j * 3 + 2, none⟩) (.inl (.inr rfl)) (.int .i64 (nn : Int)))
                    have hcond : true = false ∨ (true = true ∧ (nn : Int) ≤ (k : Int)) := by
                      rcases hstop with ⟨z, _⟩ | ⟨z, q⟩
                      · exact .inl z
                      · exact .inr ⟨z, Int.ofNat_le.2 q⟩
                    have j0 : (0 : Int) ≤ (j : Int) := Int.natCast_nonneg j
                    clear hstop eL eLen eN hgo
                    have HLT := Lib.hid hlt
                    clear HX HAT HSTEP HHL n0 e3 hlt hj hjl hhlt hG hWh cd fd f1 f2 fr1 fr2 nc1 hjh
                    rcases hcond with hg | ⟨hg, hk⟩
                    all_goals first | (exact absurd hg (by decide)) | clear hg
                    all_goals
                      go_wp2_with fail
                      go_roundw
                      case rel => exact ⟨j + 1, HLT.out, by go_num, HPUT.out, HON.out⟩
                      case measure => have := HLT.out; simp [intOf]; omega
      · have j1 : (n : Int) ≤ (j : Int) := by omega
        have HE := Lib.hid (rhalf_end keep true M.l j (by rw [HN.out]; omega))
        clear R hO hA hc c0
        go_wp2_with fail
        go_end0
        refine ⟨rfl, ⟨h, ?_, .inl rfl⟩, HO.out⟩
        rw [← HE.out]
        exact HR2.out
  · rw [if_pos rfl]
    rw [hd] at cd
    clear hd R hok
    go_enter Try.func23, Try.ntmps23
    go_wp2_with fail
    exact ⟨rfl, _, results_none rfl _ _ _, rfl, ⟨h, HR.out, .inl rfl⟩, Only.refl _ _⟩
set_option maxRecDepth 20000 in
set_option maxHeartbeats 8000000 in
theorem rcrash_false (w : World) (g h : Nat) (M : DiskM.D) (R : RD w g h M) (keep : Int) (hok : ∀ x ∈ M.l, x.sync ≤ x.b.length ∧ x.b.length ≤ 16777216) :
    RDoes 23 #[.pointer (some ⟨g, 0, none⟩), .int .i64 keep, .bool false] (.tuple #[]) w g h (DiskM.crash M keep false) := by
  have HR := Lib.hid R
  have cd := R.down
  have fd := R.free 2
  unfold RDoes DiskM.crash
  cases hd : M.down
  · rw [if_neg (by decide)]
    rw [hd] at cd
    have HOK := Lib.hid hok
    obtain ⟨n, hn⟩ : ∃ n, M.l.length = n := ⟨_, rfl⟩
    have HN := Lib.hid hn
    have n9 : (n : Int) ≤ 1000 := by have := R.few; omega
    have HST := Lib.hid (R.down_put true)
    clear hd hok hn R
    go_enter Try.func23, Try.ntmps23
    go_wp2_with fail
    go_loopw [6] (fun i wr => ∃ j : Nat, j ≤ n ∧ i = .int .i64 j ∧ RD wr g h ⟨rhalf keep false M.l j, M.max, true⟩ ∧ Only (fun k => k = g ∨ k = h) w wr) (fun i _ => n - (intOf i).toNat)
    case atStart => exact ⟨0, Nat.zero_le _, rfl, HST.out, (Only.refl (fun k => k = g ∨ k = h) w).setCell (p := ⟨g, 2, none⟩) (.inl (.inl rfl)) _⟩
    case round =>
      obtain ⟨j, hj, rfl, R, hO⟩ := hrel
      obtain ⟨w1, hw1⟩ : ∃ w1, w1 = wr := ⟨_, rfl⟩
      subst hw1
      have HR2 := Lib.hid R
      have HO := Lib.hid hO
      have j0 : (0 : Int) ≤ (j : Int) := by omega
      obtain ⟨A, c, c0, hc, hA⟩ := R.l
      have hhl : (rhalf keep false M.l j).length = n := by rw [rhalf_len _ _ _ _ (by rw [HN.out]; exact hj), HN.out]
      have c0' : w1.cell? ⟨g, 0, none⟩ = some (.slice A n c) := by rw [← hhl]; exact c0
      have hc' : (n : Int) ≤ (c : Int) := by have : (rhalf keep false M.l j).length ≤ c := hc; omega
      by_cases hlt : j < n
      · have j1 : (j : Int) < (n : Int) := by omega
        have hjl : j < M.l.length := by rw [HN.out]; exact hlt
        have hA' : A = some ⟨h, 0, none⟩ := by
          rcases hA with ⟨_, z⟩ | z
          · omega
          · exact z
        subst hA'
        obtain ⟨x, b, sy, nn, hjh, hx, hat, hstep, f1, f2, fr, hbd, hbl, hxy, hst, bb, d, hsub, hw1, d0, hnl, bn, nb, n0, e3, sn, key⟩ := crash_at HOK.out HN.out hlt R
        have HSTEP := Lib.hid hstep
        have HBD := Lib.hid hbd
        have HXY := Lib.hid hxy
        have HST2 := Lib.hid hst
        have HX := Lib.hid hx
        have HHL := Lib.hid hhl
        have HAT := Lib.hid hat
        have HBL := Lib.hid hbl
        have hhlt : h < w1.heap.size := R.row.1 (Nat.lt_of_lt_of_eq (Nat.lt_of_le_of_lt (Nat.zero_le j) hlt) HHL.out.symm)
        have fr1 := fr (j * 3 + 1)
        have fr2 := fr (j * 3 + 2)
        have HFR := Lib.hid fr
        clear R hO hA hc c0 hstep hbd hxy hst hx hhl hat hbl fr
        obtain ⟨W, c1, G, hcv, bW, hc1, hG, hown⟩ := conv_front w1 b nn hnl
        rw [HBD.out] at hown
        have nc1 : (nn : Int) ≤ (c1 : Int) := by exact Int.ofNat_le.2 hc1
        have hWh : W.cell? ⟨h, j * 3 + 2, none⟩ = some (.int .i64 (sy : Int)) := (bW.cell hhlt).trans f2
        have HBW := Lib.hid bW
        have HOWN := Lib.hid hown
        have HNL := Lib.hid hnl
        have HBN := Lib.hid bn
        clear bn bb
        have HLE : Hid (∀ la : Nat, la % 512 = 0 → (la = 0 ∨ la < nn) → nn ≤ la + 512 → ∃ m : Nat, m = max x.sync ((nn - 1) / 512 * 512) ∧ m ≤ nn ∧ (((la : Int) < (sy : Int) ∧ m = sy) ∨ ((sy : Int) ≤ (la : Int) ∧ m = la))) := fun la p1 p2 p3 => by
          rw [HXY.out]
          exact last_end p1 p2 p3 sn
        clear bW hown sn hnl hc1
        rcases key with ⟨h0, rfl⟩ | ⟨h0, h1, e2, e4⟩ | ⟨h0, h1, e2, e4⟩ | ⟨h0, h1, rfl⟩
        all_goals
          go_wp2_with fail
          go_region
          go_wp2_with fail
          go_loop [10] (fun i => ∃ la : Nat, i = .int .i64 la ∧ la % 512 = 0 ∧ (la = 0 ∨ la < nn)) (fun i => nn - (intOf i).toNat)
          case atStart => exact ⟨0, rfl, rfl, .inl rfl⟩
          case round =>
            try clear h0
            try clear h1
            try clear e2
            try clear e4
            try clear hw1
            try clear hsub
            try clear d0
            try clear nb
            try clear hcv
            clear j0
            obtain ⟨la, rfl, hm, hz⟩ := hrel
            obtain ⟨la9, la8, la0⟩ := last_step HBN.out hm hz
            have HM := Lib.hid hm
            have HZ := Lib.hid hz
            clear hm hz
            by_cases hq : la + 512 < nn
            · have hq1 := up_lt hq
              go_wp2_with fail
              go_round
              case rel => exact ⟨la + 512, by go_num, by have := HM.out; omega, .inr hq⟩
              case measure => simp [intOf]; exact up_less hq
            · obtain ⟨hq1, hq2⟩ := up_le hq
              obtain ⟨m, hm1, hmn, hcase⟩ := HLE.out la HM.out HZ.out hq2
              have HM1 := Lib.hid hm1
              have HMN := Lib.hid hmn
              clear hm1 hmn hq hq2
              rcases hcase with ⟨hl, em⟩ | ⟨hl, em⟩
              all_goals
                have HEM := Lib.hid em
                clear em
                go_wp2_with fail
                go_loopw [11] (fun i W' => ∃ (k : Nat) (l' : List UInt8), i = .int .i64 k ∧ m ≤ k ∧ k ≤ nn ∧ (false = false → k = m) ∧ turned m k (x.b.take nn) l' ∧ OwnF W' G l' ∧ Below w1.heap.size w1 W') (fun i _ => nn - (intOf i).toNat)
                case atStart => exact ⟨_, _, rfl, Nat.le_of_eq HEM.out, Nat.le_trans (Nat.le_of_eq HEM.out.symm) HMN.out, fun _ => HEM.out.symm, by rw [← HEM.out]; exact turned_start m _, HOWN.out, HBW.out⟩
                case round =>
                  try clear hl
                  try clear hq1
                  try clear la9
                  try clear la8
                  try clear la0
                  obtain ⟨k, l', rfl, hmk, hkn, hgb, ht, ho, hb'⟩ := hrel
                  have HMK := Lib.hid hmk
                  have HKN := Lib.hid hkn
                  have HGB := Lib.hid hgb
                  have HT := Lib.hid ht
                  have HOW := Lib.hid ho
                  have HB' := Lib.hid hb'
                  have hlen : l'.length = nn := by
                    rw [ht.1, List.length_take, HBL.out]
                    exact Nat.min_eq_left HNL.out
                  have HLEN := Lib.hid hlen
                  clear hmk hkn hgb ht ho hb' hlen
                  by_cases hgo : false = true ∧ k < nn
                  · exact absurd hgo.1 (by decide)
                  · have hstop : (false = false ∧ k = m) ∨ (false = true ∧ nn ≤ k) := by
                      rcases bool_two false with z | z
                      · exact .inr ⟨z, by
                          rcases Nat.lt_or_ge k nn with q | q
                          · exact absurd ⟨z, q⟩ hgo
                          · exact q⟩
                      · exact .inl ⟨z, HGB.out z⟩
                    obtain ⟨eL, eLen, eN⟩ := crash_bytes HST2.out (by rw [HBL.out]; exact HNL.out) HM1.out HT.out hstop
                    have hcv2 := convert_n c1 nn eN HOW.out.reads
                    have hat1 := (HB'.out.cell hhlt).trans f1
                    have hat2 := (HB'.out.cell hhlt).trans f2
                    have hfr1 := (HB'.out.frozen hhlt).trans fr1
                    have hfr2 := (HB'.out.frozen hhlt).trans fr2
                    have HPUT := Lib.hid (crash_put HR2.out HB'.out hjh HAT.out HSTEP.out eL eLen HST2.out)
                    have HON := Lib.hid (((HO.out.trans (Only.of_below (F := fun k => k = g ∨ k = h) HB'.out) fun k hk => .inl hk).setCell (p := ⟨h, j * 3 + 1, none⟩) (.inl (.inr rfl)) (.string ⟨l'.toArray⟩)).setCell (p := ⟨h, j * 3 + 2, none⟩) (.inl (.inr rfl)) (.int .i64 (nn : Int)))
                    have hcond : false = false ∨ (false = true ∧ (nn : Int) ≤ (k : Int)) := by
                      rcases hstop with ⟨z, _⟩ | ⟨z, q⟩
                      · exact .inl z
                      · exact .inr ⟨z, Int.ofNat_le.2 q⟩
                    have j0 : (0 : Int) ≤ (j : Int) := Int.natCast_nonneg j
                    clear hstop eL eLen eN hgo
                    have HLT := Lib.hid hlt
                    clear HX HAT HSTEP HHL n0 e3 hlt hj hjl hhlt hG hWh cd fd f1 f2 fr1 fr2 nc1 hjh
                    rcases hcond with hg | ⟨hg, hk⟩
                    all_goals first | (exact absurd hg (by decide)) | clear hg
                    all_goals
                      go_wp2_with fail
                      go_roundw
                      case rel => exact ⟨j + 1, HLT.out, by go_num, HPUT.out, HON.out⟩
                      case measure => have := HLT.out; simp [intOf]; omega
      · have j1 : (n : Int) ≤ (j : Int) := by omega
        have HE := Lib.hid (rhalf_end keep false M.l j (by rw [HN.out]; omega))
        clear R hO hA hc c0
        go_wp2_with fail
        go_end0
        refine ⟨rfl, ⟨h, ?_, .inl rfl⟩, HO.out⟩
        rw [← HE.out]
        exact HR2.out
  · rw [if_pos rfl]
    rw [hd] at cd
    clear hd R hok
    go_enter Try.func23, Try.ntmps23
    go_wp2_with fail
    exact ⟨rfl, _, results_none rfl _ _ _, rfl, ⟨h, HR.out, .inl rfl⟩, Only.refl _ _⟩
theorem rcrash_any (w : World) (g h : Nat) (M : DiskM.D) (R : RD w g h M) (keep : Int) (gb : Bool) (hok : ∀ x ∈ M.l, x.sync ≤ x.b.length ∧ x.b.length ≤ 16777216) :
    RDoes 23 #[.pointer (some ⟨g, 0, none⟩), .int .i64 keep, .bool gb] (.tuple #[]) w g h (DiskM.crash M keep gb) := by
  cases gb
  · exact rcrash_false w g h M R keep hok
  · exact rcrash_true w g h M R keep hok
end Go.Proofs.Ythclaolmmlgalaa
