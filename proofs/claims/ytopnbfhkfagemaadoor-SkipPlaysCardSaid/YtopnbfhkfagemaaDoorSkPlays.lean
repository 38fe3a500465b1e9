/- The law SkipPlays: a set is as a list in order. -/
import Derived.Test.YtopnbfhkfagemaaDoorSkDuo
import Derived.Test.YtopnbfhkfagemaaDoorSkAsk
namespace Go.Proofs.YtopnbfhkfagemaaDoor
open Go.RowKit
set_option linter.unusedVariables false
set_option maxRecDepth 20000 in
theorem plays_long (w : World) (tz : Tz w) (A : Option Addr) (n c : Nat) (o : Value) (h : 60 < n) :
    Calls Tryd.prog 3 #[.slice A n c, o] w fun e w' => e = .returned (.bool true) ∧ Below w.heap.size w w' := by
  have h1 : (60 : Int) < (n : Int) := by omega
  have TZ := Lib.hid tz
  clear h tz
  go_enter Tryd.func3, Tryd.ntmps3
  go_wp2_with fail
  go_at_call 7
  refine (told_any _ TZ.out).mono ?_
  rintro e w' ⟨rfl, hb⟩
  go_wp2_with fail
  go_ret
  exact ⟨rfl, hb⟩
theorem foldP_ok : ∀ l : List SkM.E, SkM.Ok (foldP l) := by
  suffices ∀ (l m : List SkM.E), SkM.Ok m → SkM.Ok (l.foldl (fun m a => SkM.put m a.1 a.2) m) from fun l => this l [] ⟨List.Pairwise.nil, List.nodup_nil⟩
  intro l
  induction l with
  | nil => intro m h; exact h
  | cons a r ih => intro m h; exact ih _ (h.put a.1 a.2)
theorem wf_range {v : Int} (h : (Lit.int .i64 v).wf = true) : -9223372036854775808 ≤ v ∧ v ≤ 9223372036854775807 := by
  simp only [Lit.wf, Bool.and_eq_true, decide_eq_true_eq] at h
  exact h
set_option maxRecDepth 20000 in
set_option maxHeartbeats 16000000 in
theorem plays_walk (w : World) (tz : Tz w) (A : Option Addr) (l : List SkM.E) (n c : Nat) (hn : l.length = n) (hrow : SList w (.slice A n c) l) (h9 : n ≤ 60) (hnm : ∀ y ∈ l, y.1.length ≤ lim)
    (B : Option Addr) (os : List OpV) (K cb : Nat) (hK : os.length = K) (hrw : OpRow w B os) (hok : ∀ o ∈ os, o.Ok) :
    Calls Tryd.prog 3 #[.slice A n c, .slice B K cb] w fun e w' => e = .returned (.bool true) ∧ Below w.heap.size w w' := by
  have TZ := Lib.hid tz
  have OF := Lib.hid (of_any w tz A l n c hn hrow (by omega) hnm)
  obtain ⟨M, hM⟩ : ∃ M, foldP l = M := ⟨_, rfl⟩
  have HM := Lib.hid hM
  have ML : Hid (M.length ≤ 60) := by show _ ≤ _; rw [← hM]; have := foldP_len l; omega
  rw [hM] at OF
  have SL := Lib.hid hrow
  have HN := Lib.hid hn
  have HK := Lib.hid hK
  have HRW := Lib.hid hrw
  have HOK := Lib.hid hok
  have HNM := Lib.hid hnm
  have H9 := Lib.hid h9
  have n0 : (0 : Int) ≤ (n : Int) := by omega
  have n9 : (n : Int) ≤ 60 := by omega
  have K0 : (0 : Int) ≤ (K : Int) := by omega
  clear tz hn hrow h9 hnm hM hK hrw hok
  go_enter Tryd.func3, Tryd.ntmps3
  go_wp2_with fail
  go_at_call 8
  refine OF.out.mono ?_
  rintro e w1 ⟨p, rfl, h1⟩
  have H1 := Lib.hid h1
  clear h1 OF
  go_wp2_with fail
  go_loopw [7, 6] (fun u v wr => ∃ (k : Nat) (v' : Value), k ≤ n ∧ u = .int .i64 (k : Int) ∧ v = v' ∧ Duo w wr p M v' (foldP (l.take k))) (fun u _ _ => n - (intOf u).toNat)
  case atStart => exact ⟨0, _, Nat.zero_le _, rfl, rfl, H1.out.duo⟩
  case round =>
    obtain ⟨k, v, hk, rfl, hv, hd⟩ := hrel
    obtain rfl := hv.symm
    clear hv
    have HD := Lib.hid hd
    have k0 : (0 : Int) ≤ (k : Int) := by omega
    clear hd
    by_cases hlt : k < n
    · have k1 : (k : Int) < (n : Int) := by omega
      have hkl : k < l.length := by rw [HN.out]; exact hlt
      obtain ⟨s, hs⟩ : ∃ s : ByteArray, (⟨l[k].1.toArray⟩ : ByteArray) = s := ⟨_, rfl⟩
      obtain ⟨x, hx⟩ : ∃ x, l[k].2 = x := ⟨_, rfl⟩
      have e : l[k] = (s.data.toList, x) := by rw [← hs, ← hx] <;> rfl
      have SLR := SL.out.keep HD.out.sst.below
      obtain ⟨a, rfl, -, f0, f1⟩ := row_cells SLR k hkl e
      have NX : Hid (foldP (l.take (k + 1)) = SkM.put (foldP (l.take k)) s.data.toList x) := by show _ = _; rw [foldP_take l hkl, e]
      have LE : Hid ((foldP (l.take k)).length ≤ 999) := by
        show _ ≤ _
        have := foldP_len (l.take k)
        rw [List.length_take] at this
        have := H9.out
        omega
      have OKF : Hid (SkM.Ok (foldP (l.take k))) := foldP_ok _
      have HLT := Lib.hid hlt
      clear hs hx e SLR hkl hlt hk
      go_wp2_with fail
      go_at_call 9
      refine (HD.out.row_put s x LE.out OKF.out).mono ?_
      rintro e w2 ⟨⟨v2, rfl, h2⟩, hb2⟩
      rw [← NX.out] at h2
      have H2 := Lib.hid h2
      clear h2 hb2
      go_wp2_with fail
      exact ⟨⟨k + 1, _, HLT.out, by go_num, rfl, H2.out⟩, by have := HLT.out; simp [intOf]; omega⟩
    · obtain rfl : k = n := by omega
      have D0 : Hid (Duo w wr p M v M) := by
        have := HD.out
        rw [← HN.out, List.take_length, HM.out] at this
        exact this
      clear hlt HD hk
      go_wp2_with fail
      go_loopw [8, 6] (fun u v wr => ∃ (q : Nat) (m : List SkM.E) (v' : Value), q ≤ K ∧ q ≤ 100 ∧ u = .int .i64 (q : Int) ∧ v = v' ∧ Duo w wr p m v' m ∧ m.length ≤ 60 + q) (fun u _ _ => K - (intOf u).toNat)
      case atStart => exact ⟨0, M, _, Nat.zero_le _, Nat.zero_le _, rfl, rfl, D0.out, by have := ML.out; omega⟩
      case round =>
        obtain ⟨q, m, v, hqK, hq9, rfl, hv, hd, hml⟩ := hrel
        obtain rfl := hv.symm
        clear hv
        have HD := Lib.hid hd
        have LQ := Lib.hid hml
        have q0 : (0 : Int) ≤ (q : Int) := by omega
        have HQ9 := Lib.hid hq9
        clear hd hml D0
        by_cases hlt : q < K
        · have q1 : (q : Int) < (K : Int) := by omega
          by_cases hlt9 : q < 100
          · have q2 : (q : Int) < 100 := by omega
            have HQ : Hid (q + 1 ≤ K ∧ q + 1 ≤ 100) := ⟨hlt, hlt9⟩
            have hql : q < os.length := by rw [HK.out]; exact hlt
            obtain ⟨a, rfl, ha, hce⟩ := HRW.out q hql
            have ok9 := HOK.out _ (List.getElem_mem hql)
            obtain ⟨o, ho⟩ : ∃ o, os[q] = o := ⟨_, rfl⟩
            rw [ho] at hce ok9
            have hcr : ∀ i, i < 5 → wr.cell? ((a.add (q * 5)).add i) = (o.vals)[i]? := fun i hi => (HD.out.sst.below.cell (p := (a.add (q * 5)).add i) (by rw [add_block, add_block]; exact ha)).trans (hce i hi)
            obtain ⟨kd, i, j, s, x⟩ := o
            have f0 : wr.cell? (a.add (q * 5)) = some (.int .i64 kd) := by
              have := hcr 0 (by omega)
              rw [show (a.add (q * 5)).add 0 = a.add (q * 5) by simp [Addr.add]] at this
              exact this
            have f1 : wr.cell? ⟨(a.add (q * 5)).block, (a.add (q * 5)).off + 1, none⟩ = some (.int .i64 i) := hcr 1 (by omega)
            have f2 : wr.cell? ⟨(a.add (q * 5)).block, (a.add (q * 5)).off + 2, none⟩ = some (.int .i64 j) := hcr 2 (by omega)
            have f3 : wr.cell? ⟨(a.add (q * 5)).block, (a.add (q * 5)).off + 3, none⟩ = some (.string s) := hcr 3 (by omega)
            have f4 : wr.cell? ⟨(a.add (q * 5)).block, (a.add (q * 5)).off + 4, none⟩ = some (.int .i64 x) := hcr 4 (by omega)
            have RNG : Hid (-9223372036854775808 ≤ i ∧ i ≤ 9223372036854775807 ∧ -9223372036854775808 ≤ j ∧ j ≤ 9223372036854775807) := ⟨(wf_range ok9.i).1, (wf_range ok9.i).2, (wf_range ok9.j).1, (wf_range ok9.j).2⟩
            obtain ⟨w2, hw2⟩ : ∃ w2, wr.alloc (.cells #[.int .i64 kd, .int .i64 i, .int .i64 j, .string s, .int .i64 x] 32) = w2 := ⟨_, rfl⟩
            have al2 : Below wr.heap.size wr w2 := by rw [← hw2]; exact (Below.refl _ wr).alloc (Nat.le_refl _) _
            have x0 : w2.cell? ⟨wr.heap.size, 0, none⟩ = some (.int .i64 kd) := by rw [← hw2, World.cell?_alloc_new]; rfl
            have x1 : w2.cell? ⟨wr.heap.size, 1, none⟩ = some (.int .i64 i) := by rw [← hw2, World.cell?_alloc_new]; rfl
            have x2 : w2.cell? ⟨wr.heap.size, 2, none⟩ = some (.int .i64 j) := by rw [← hw2, World.cell?_alloc_new]; rfl
            have x3 : w2.cell? ⟨wr.heap.size, 3, none⟩ = some (.string s) := by rw [← hw2, World.cell?_alloc_new]; rfl
            have x4 : w2.cell? ⟨wr.heap.size, 4, none⟩ = some (.int .i64 x) := by rw [← hw2, World.cell?_alloc_new]; rfl
            have X : Hid (∀ W, Below w2.heap.size w2 W → W.cell? ⟨wr.heap.size, 0, none⟩ = some (.int .i64 kd) ∧ W.cell? ⟨wr.heap.size, 1, none⟩ = some (.int .i64 i) ∧ W.cell? ⟨wr.heap.size, 2, none⟩ = some (.int .i64 j) ∧ W.cell? ⟨wr.heap.size, 3, none⟩ = some (.string s) ∧ W.cell? ⟨wr.heap.size, 4, none⟩ = some (.int .i64 x)) := fun W hW =>
              ⟨(hW.cell (p := ⟨wr.heap.size, 0, none⟩) (cell_in x0)).trans x0, (hW.cell (p := ⟨wr.heap.size, 1, none⟩) (cell_in x1)).trans x1, (hW.cell (p := ⟨wr.heap.size, 2, none⟩) (cell_in x2)).trans x2, (hW.cell (p := ⟨wr.heap.size, 3, none⟩) (cell_in x3)).trans x3, (hW.cell (p := ⟨wr.heap.size, 4, none⟩) (cell_in x4)).trans x4⟩
            have D2 := Lib.hid (HD.out.keep al2)
            have HW2 := Lib.hid hw2
            clear hce hcr ok9 ho ha hql hw2 al2 x0 x1 x2 x3 x4 hlt hlt9 hqK hq9
            by_cases hm : 20 < s.size
            · have m1 : (20 : Int) < (s.size : Int) := by omega
              clear hm
              go_wp2_with fail
              rw [HW2.out]
              go_at_call 7
              refine (told_any _ (TZ.out.below D2.out.sst.below)).mono ?_
              rintro e w5 ⟨rfl, hb5⟩
              go_wp2_with fail
              go_ret
              exact ⟨rfl, below_then D2.out.sst.below hb5⟩
            · have m1 : (s.size : Int) ≤ 20 := by omega
              have SZL : Hid (s.size ≤ lim) := by show s.size ≤ lim; unfold lim; omega
              have LM : Hid (m.length ≤ 999) := by show m.length ≤ 999; have := LQ.out; have := HQ.out.2; omega
              have OKM : Hid (SkM.Ok m) := HD.out.sst.ok
              clear hm
              obtain ⟨t, ht, hkk⟩ := kind_five kd
              rcases (by omega : t = 0 ∨ t = 1 ∨ t = 2 ∨ t = 3 ∨ t = 4) with rfl | rfl | rfl | rfl | rfl
              · clear ht
                have hk : (wrap64 (kd.tmod 5 + 5)).tmod 5 = 0 := hkk
                clear hkk
                obtain ⟨b, hb⟩ : ∃ b, (SkM.get m s.data.toList).isNone = b := ⟨_, rfl⟩
                have HB := Lib.hid hb
                have bb : (b == b) = true := by simp
                have bn : (b != b) = false := by simp
                clear hb
                go_wp2_with fail
                rw [HW2.out]
                go_at_call 9
                refine (D2.out.row_put s x LM.out OKM.out).mono ?_
                rintro e w3 ⟨⟨v3, rfl, h3⟩, hb3⟩
                have H3 := Lib.hid h3
                obtain ⟨y0, y1, y2, y3, y4⟩ := X.out w3 hb3
                rw [HB.out]
                clear h3 hb3
                go_wp2_with fail
                go_at_call 10
                refine (H3.out.set_put s SZL.out x LM.out).mono ?_
                rintro e w5 ⟨rfl, h5⟩
                have H5 := Lib.hid h5
                rw [HB.out]
                clear h5 y0 y1 y2 y3 y4 H3
                
                obtain ⟨A5, c5, rfl, -⟩ := H5.out.row
                obtain ⟨L, hL⟩ : ∃ L, (SkM.put m s.data.toList x).length = L := ⟨_, rfl⟩
                have HL := Lib.hid hL
                rw [hL]
                clear hL
                have L0 : (0 : Int) ≤ (L : Int) := by omega
                go_wp2_with fail
                go_at_call 14
                refine (H5.out.len_).mono ?_
                rintro e w6 ⟨rfl, hb6⟩
                have H6 := Lib.hid (H5.out.keep hb6)
                rw [HL.out]
                clear hb6
                go_wp2_with fail
                go_at_call 15
                refine (H6.out.levels_).mono ?_
                rintro e w7 ⟨⟨z1, rfl, hz1⟩, hb7⟩
                have H7 := Lib.hid (H6.out.keep hb7)
                have z2 : (z1 : Int) ≤ 20 := by omega
                have z3 : ¬ (20 : Int) < (z1 : Int) := by omega
                clear hb7
                go_wp2_with fail
                go_at_call 15
                refine (H7.out.levels_).mono ?_
                rintro e w8 ⟨⟨z4, rfl, hz4⟩, hb8⟩
                have H8 := Lib.hid (H7.out.keep hb8)
                have z5 : (0 : Int) ≤ (z4 : Int) := by omega
                have z6 : ¬ (z4 : Int) < 0 := by omega
                clear hb8
                go_wp2_with fail
                exact ⟨⟨q + 1, SkM.put m s.data.toList x, _, HQ.out.1, HQ.out.2, by go_num, rfl, by have := H8.out; rw [HL.out] at this; exact this, by have := SkM.put_length m s.data.toList x; have := LQ.out; omega⟩, by have := HQ.out.1; simp [intOf]; omega⟩
              · clear ht
                have hk : (wrap64 (kd.tmod 5 + 5)).tmod 5 = 1 := hkk
                clear hkk
                obtain ⟨b, hb⟩ : ∃ b, (SkM.get m s.data.toList).isNone = b := ⟨_, rfl⟩
                have HB := Lib.hid hb
                have bb : (b == b) = true := by simp
                have bn : (b != b) = false := by simp
                clear hb
                go_wp2_with fail
                rw [HW2.out]
                go_at_call 9
                refine (D2.out.row_put s x LM.out OKM.out).mono ?_
                rintro e w3 ⟨⟨v3, rfl, h3⟩, hb3⟩
                have H3 := Lib.hid h3
                obtain ⟨y0, y1, y2, y3, y4⟩ := X.out w3 hb3
                rw [HB.out]
                clear h3 hb3
                go_wp2_with fail
                go_at_call 10
                refine (H3.out.set_put s SZL.out x LM.out).mono ?_
                rintro e w5 ⟨rfl, h5⟩
                have H5 := Lib.hid h5
                rw [HB.out]
                clear h5 y0 y1 y2 y3 y4 H3
                
                obtain ⟨A5, c5, rfl, -⟩ := H5.out.row
                obtain ⟨L, hL⟩ : ∃ L, (SkM.put m s.data.toList x).length = L := ⟨_, rfl⟩
                have HL := Lib.hid hL
                rw [hL]
                clear hL
                have L0 : (0 : Int) ≤ (L : Int) := by omega
                go_wp2_with fail
                go_at_call 14
                refine (H5.out.len_).mono ?_
                rintro e w6 ⟨rfl, hb6⟩
                have H6 := Lib.hid (H5.out.keep hb6)
                rw [HL.out]
                clear hb6
                go_wp2_with fail
                go_at_call 15
                refine (H6.out.levels_).mono ?_
                rintro e w7 ⟨⟨z1, rfl, hz1⟩, hb7⟩
                have H7 := Lib.hid (H6.out.keep hb7)
                have z2 : (z1 : Int) ≤ 20 := by omega
                have z3 : ¬ (20 : Int) < (z1 : Int) := by omega
                clear hb7
                go_wp2_with fail
                go_at_call 15
                refine (H7.out.levels_).mono ?_
                rintro e w8 ⟨⟨z4, rfl, hz4⟩, hb8⟩
                have H8 := Lib.hid (H7.out.keep hb8)
                have z5 : (0 : Int) ≤ (z4 : Int) := by omega
                have z6 : ¬ (z4 : Int) < 0 := by omega
                clear hb8
                go_wp2_with fail
                exact ⟨⟨q + 1, SkM.put m s.data.toList x, _, HQ.out.1, HQ.out.2, by go_num, rfl, by have := H8.out; rw [HL.out] at this; exact this, by have := SkM.put_length m s.data.toList x; have := LQ.out; omega⟩, by have := HQ.out.1; simp [intOf]; omega⟩
              · clear ht
                have hk : (wrap64 (kd.tmod 5 + 5)).tmod 5 = 2 := hkk
                clear hkk
                obtain ⟨b, hb⟩ : ∃ b, (SkM.get m s.data.toList).isNone = b := ⟨_, rfl⟩
                have HB := Lib.hid hb
                have bb : (b == b) = true := by simp
                have bn : (b != b) = false := by simp
                clear hb
                go_wp2_with fail
                rw [HW2.out]
                go_at_call 9
                refine (D2.out.row_put s x LM.out OKM.out).mono ?_
                rintro e w3 ⟨⟨v3, rfl, h3⟩, hb3⟩
                have H3 := Lib.hid h3
                obtain ⟨y0, y1, y2, y3, y4⟩ := X.out w3 hb3
                rw [HB.out]
                clear h3 hb3
                go_wp2_with fail
                go_at_call 10
                refine (H3.out.set_put s SZL.out x LM.out).mono ?_
                rintro e w5 ⟨rfl, h5⟩
                have H5 := Lib.hid h5
                rw [HB.out]
                clear h5 y0 y1 y2 y3 y4 H3
                
                obtain ⟨A5, c5, rfl, -⟩ := H5.out.row
                obtain ⟨L, hL⟩ : ∃ L, (SkM.put m s.data.toList x).length = L := ⟨_, rfl⟩
                have HL := Lib.hid hL
                rw [hL]
                clear hL
                have L0 : (0 : Int) ≤ (L : Int) := by omega
                go_wp2_with fail
                go_at_call 14
                refine (H5.out.len_).mono ?_
                rintro e w6 ⟨rfl, hb6⟩
                have H6 := Lib.hid (H5.out.keep hb6)
                rw [HL.out]
                clear hb6
                go_wp2_with fail
                go_at_call 15
                refine (H6.out.levels_).mono ?_
                rintro e w7 ⟨⟨z1, rfl, hz1⟩, hb7⟩
                have H7 := Lib.hid (H6.out.keep hb7)
                have z2 : (z1 : Int) ≤ 20 := by omega
                have z3 : ¬ (20 : Int) < (z1 : Int) := by omega
                clear hb7
                go_wp2_with fail
                go_at_call 15
                refine (H7.out.levels_).mono ?_
                rintro e w8 ⟨⟨z4, rfl, hz4⟩, hb8⟩
                have H8 := Lib.hid (H7.out.keep hb8)
                have z5 : (0 : Int) ≤ (z4 : Int) := by omega
                have z6 : ¬ (z4 : Int) < 0 := by omega
                clear hb8
                go_wp2_with fail
                exact ⟨⟨q + 1, SkM.put m s.data.toList x, _, HQ.out.1, HQ.out.2, by go_num, rfl, by have := H8.out; rw [HL.out] at this; exact this, by have := SkM.put_length m s.data.toList x; have := LQ.out; omega⟩, by have := HQ.out.1; simp [intOf]; omega⟩
              · clear ht
                have hk : (wrap64 (kd.tmod 5 + 5)).tmod 5 = 3 := hkk
                clear hkk
                obtain ⟨b, hb⟩ : ∃ b, (SkM.get m s.data.toList).isSome = b := ⟨_, rfl⟩
                have HB := Lib.hid hb
                have bb : (b == b) = true := by simp
                have bn : (b != b) = false := by simp
                clear hb
                go_wp2_with fail
                rw [HW2.out]
                go_at_call 11
                refine (D2.out.row_del s LM.out OKM.out).mono ?_
                rintro e w3 ⟨⟨v3, rfl, h3⟩, hb3⟩
                have H3 := Lib.hid h3
                obtain ⟨y0, y1, y2, y3, y4⟩ := X.out w3 hb3
                rw [HB.out]
                clear h3 hb3
                go_wp2_with fail
                go_at_call 12
                refine (H3.out.set_del s SZL.out).mono ?_
                rintro e w5 ⟨rfl, h5⟩
                have H5 := Lib.hid h5
                rw [HB.out]
                clear h5 y0 y1 y2 y3 y4 H3
                
                obtain ⟨A5, c5, rfl, -⟩ := H5.out.row
                obtain ⟨L, hL⟩ : ∃ L, (SkM.del m s.data.toList).length = L := ⟨_, rfl⟩
                have HL := Lib.hid hL
                rw [hL]
                clear hL
                have L0 : (0 : Int) ≤ (L : Int) := by omega
                go_wp2_with fail
                go_at_call 14
                refine (H5.out.len_).mono ?_
                rintro e w6 ⟨rfl, hb6⟩
                have H6 := Lib.hid (H5.out.keep hb6)
                rw [HL.out]
                clear hb6
                go_wp2_with fail
                go_at_call 15
                refine (H6.out.levels_).mono ?_
                rintro e w7 ⟨⟨z1, rfl, hz1⟩, hb7⟩
                have H7 := Lib.hid (H6.out.keep hb7)
                have z2 : (z1 : Int) ≤ 20 := by omega
                have z3 : ¬ (20 : Int) < (z1 : Int) := by omega
                clear hb7
                go_wp2_with fail
                go_at_call 15
                refine (H7.out.levels_).mono ?_
                rintro e w8 ⟨⟨z4, rfl, hz4⟩, hb8⟩
                have H8 := Lib.hid (H7.out.keep hb8)
                have z5 : (0 : Int) ≤ (z4 : Int) := by omega
                have z6 : ¬ (z4 : Int) < 0 := by omega
                clear hb8
                go_wp2_with fail
                exact ⟨⟨q + 1, SkM.del m s.data.toList, _, HQ.out.1, HQ.out.2, by go_num, rfl, by have := H8.out; rw [HL.out] at this; exact this, by have := (SkM.del_sub m s.data.toList).length_le; have := LQ.out; omega⟩, by have := HQ.out.1; simp [intOf]; omega⟩
              · clear ht
                have hk : (wrap64 (kd.tmod 5 + 5)).tmod 5 = 4 := hkk
                clear hkk
                go_wp2_with fail
                rw [HW2.out]
                obtain ⟨y0, y1, y2, y3, y4⟩ := X.out w2 (Below.refl _ _)
                try go_wp2_with fail
                go_at_call 13
                refine (asks_any w w2 p v m D2.out.sst D2.out.row LM.out kd i j x s SZL.out RNG.out.1 RNG.out.2.1 RNG.out.2.2.1 RNG.out.2.2.2).mono ?_
                rintro e w5 ⟨rfl, hb5⟩
                have H5 := Lib.hid (D2.out.keep hb5)
                clear hb5 y0 y1 y2 y3 y4
                
                obtain ⟨A5, c5, rfl, -⟩ := H5.out.row
                obtain ⟨L, hL⟩ : ∃ L, (m).length = L := ⟨_, rfl⟩
                have HL := Lib.hid hL
                rw [hL]
                clear hL
                have L0 : (0 : Int) ≤ (L : Int) := by omega
                go_wp2_with fail
                go_at_call 14
                refine (H5.out.len_).mono ?_
                rintro e w6 ⟨rfl, hb6⟩
                have H6 := Lib.hid (H5.out.keep hb6)
                rw [HL.out]
                clear hb6
                go_wp2_with fail
                go_at_call 15
                refine (H6.out.levels_).mono ?_
                rintro e w7 ⟨⟨z1, rfl, hz1⟩, hb7⟩
                have H7 := Lib.hid (H6.out.keep hb7)
                have z2 : (z1 : Int) ≤ 20 := by omega
                have z3 : ¬ (20 : Int) < (z1 : Int) := by omega
                clear hb7
                go_wp2_with fail
                go_at_call 15
                refine (H7.out.levels_).mono ?_
                rintro e w8 ⟨⟨z4, rfl, hz4⟩, hb8⟩
                have H8 := Lib.hid (H7.out.keep hb8)
                have z5 : (0 : Int) ≤ (z4 : Int) := by omega
                have z6 : ¬ (z4 : Int) < 0 := by omega
                clear hb8
                go_wp2_with fail
                exact ⟨⟨q + 1, m, _, HQ.out.1, HQ.out.2, by go_num, rfl, by have := H8.out; rw [HL.out] at this; exact this, by have := LQ.out; omega⟩, by have := HQ.out.1; simp [intOf]; omega⟩
          · obtain rfl : q = 100 := by omega
            have q2 : ¬ (100 : Int) < 100 := by decide
            clear hlt9 hqK hq9
            clear hlt
            go_wp2_with fail
            go_at_call 7
            refine (told_any _ (TZ.out.below HD.out.sst.below)).mono ?_
            rintro e w5 ⟨rfl, hb5⟩
            have H5 := Lib.hid (HD.out.keep hb5)
            clear hb5
            go_wp2_with fail
            go_at_call 17
            refine (H5.out.all_).mono ?_
            rintro e w6 ⟨⟨v6, rfl, hs6⟩, hb6⟩
            have H6 := Lib.hid (H5.out.keep hb6)
            have S6 := Lib.hid hs6
            clear hb6 hs6
            go_wp2_with fail
            go_at_call 16
            refine (scores_any _ _ _ m S6.out H6.out.row (by have := LQ.out; have := HQ9.out; omega)).mono ?_
            rintro e w7 ⟨rfl, hb7⟩
            go_wp2_with fail
            go_ret
            exact ⟨rfl, below_then H6.out.sst.below hb7⟩
        · obtain rfl : q = K := by omega
          have q2 : ¬ (q : Int) < (q : Int) := by omega
          clear hqK hq9
          clear hlt
          go_wp2_with fail
          go_at_call 7
          refine (told_any _ (TZ.out.below HD.out.sst.below)).mono ?_
          rintro e w5 ⟨rfl, hb5⟩
          have H5 := Lib.hid (HD.out.keep hb5)
          clear hb5
          go_wp2_with fail
          go_at_call 17
          refine (H5.out.all_).mono ?_
          rintro e w6 ⟨⟨v6, rfl, hs6⟩, hb6⟩
          have H6 := Lib.hid (H5.out.keep hb6)
          have S6 := Lib.hid hs6
          clear hb6 hs6
          go_wp2_with fail
          go_at_call 16
          refine (scores_any _ _ _ m S6.out H6.out.row (by have := LQ.out; have := HQ9.out; omega)).mono ?_
          rintro e w7 ⟨rfl, hb7⟩
          go_wp2_with fail
          go_ret
          exact ⟨rfl, below_then H6.out.sst.below hb7⟩
end Go.Proofs.YtopnbfhkfagemaaDoor
