/- The document's own disk: Cut, Rename. -/
import Derived.Test.YthclaolmmlgalaaRefApp
namespace Go.Proofs.Ythclaolmmlgalaa
open Go.RowKit
set_option linter.unusedVariables false

set_option maxRecDepth 20000 in
set_option maxHeartbeats 4000000 in
theorem rcut_any (w : World) (g h : Nat) (M : DiskM.D) (R : RD w g h M) (s : ByteArray) (t : Int) (hr : DiskM.Rises M.l) (hsy : ∀ x, DiskM.find M.l s.data.toList = some x → x.b.length ≤ 16777216) :
    RDoes 16 #[.pointer (some ⟨g, 0, none⟩), .string s, .int .i64 t] (.int .i64 (DiskM.cut M s.data.toList t).1) w g h (DiskM.cut M s.data.toList t).2 := by
  have HR := Lib.hid R
  have hdr : DiskM.cut M s.data.toList t = match DiskM.have_ M s.data.toList with
    | .error e => (e, M)
    | .ok f => if t < 0 ∨ (f.b.length : Int) < t then (7, M) else (0, { M with l := DiskM.put M.l ⟨s.data.toList, f.b.take t.toNat, t.toNat⟩ }) := rfl
  unfold RDoes
  rw [hdr]
  cases hv : DiskM.have_ M s.data.toList with
  | error r =>
    obtain ⟨ha, r0⟩ := have_err hv
    have HA := Lib.hid ha
    clear hv hdr ha R hsy
    dsimp only
    go_enter Try.func16, Try.ntmps16
    go_wp2_with fail
    go_at_call 39
    refine (have_any w g h M HR.out s).mono ?_
    rintro e w' ⟨rfl, rfl⟩
    rw [HA.out]
    go_wp2_with fail
    go_ret
    exact ⟨rfl, ⟨h, HR.out, .inl rfl⟩, Only.refl _ _⟩
  | ok x =>
    obtain ⟨k, hk, ha, hkx, hxs, hfd⟩ := have_at hv
    have hx9 := hsy x hfd
    obtain ⟨A, c, c0, hc, hA⟩ := R.l
    have hA' : A = some ⟨h, 0, none⟩ := by
      rcases hA with ⟨_, z⟩ | z
      · omega
      · exact z
    subst hA'
    have f1 := R.row.each k 1 hk (by omega)
    have f2 := R.row.each k 2 hk (by omega)
    have fr := (R.row.2 k hk).2.2.2
    rw [hkx] at f1 f2
    have HA := Lib.hid ha
    dsimp only
    obtain ⟨b, hb⟩ : ∃ b : ByteArray, (⟨x.b.toArray⟩ : ByteArray) = b := ⟨_, rfl⟩
    have hbl : x.b.length = b.size := by rw [← hb]; rfl
    obtain ⟨y, hy⟩ : ∃ y, x.sync = y := ⟨_, rfl⟩
    have f1' : w.cell? ⟨h, k * 3 + 1, none⟩ = some (.string b) := by rw [f1, ← hb]; rfl
    have f2' : w.cell? ⟨h, k * 3 + 2, none⟩ = some (.int .i64 (y : Int)) := by rw [f2, ← hy]; rfl
    have fr1 := fr (k * 3 + 1)
    have fr2 := fr (k * 3 + 2)
    obtain ⟨n, hn⟩ : ∃ n, M.l.length = n := ⟨_, rfl⟩
    have c0' := c0
    have hc' := hc
    rw [hn] at c0' hc'
    have hk' := hk
    rw [hn] at hk'
    have k0 : (0 : Int) ≤ (k : Int) := by omega
    have k1 : (k : Int) < (n : Int) := by omega
    have b9 : (b.size : Int) ≤ 16777216 := by omega
    by_cases bad : t < 0 ∨ (x.b.length : Int) < t
    · rw [if_pos bad]
      rw [hbl] at bad
      have two : t < 0 ∨ (0 ≤ t ∧ (b.size : Int) < t) := by omega
      clear hv hdr ha R hr f1 f2 hb hbl hfd hkx hxs hA hn hy hsy hx9 c0 hc hk bad fr
      rcases two with h0 | ⟨h0, h1⟩
      all_goals
        go_enter Try.func16, Try.ntmps16
        go_wp2_with fail
        go_at_call 39
        refine (have_any w g h M HR.out s).mono ?_
        rintro e w' ⟨rfl, rfl⟩
        rw [HA.out]
        go_wp2_with fail
        go_ret
        exact ⟨rfl, ⟨h, HR.out, .inl rfl⟩, Only.refl _ _⟩
    · rw [if_neg bad]
      obtain ⟨q, rfl⟩ : ∃ q : Nat, t = (q : Int) := ⟨t.toNat, by omega⟩
      have e1 : ((q : Int)).toNat = q := by omega
      rw [e1]
      have hq : q ≤ x.b.length := by omega
      have hps : DiskM.put M.l ⟨s.data.toList, x.b.take q, q⟩ = M.l.set k ⟨s.data.toList, x.b.take q, q⟩ := put_set hr k hk _ (by rw [hkx, hxs])
      have hln : DiskM.len M.l s.data.toList = x.b.length := by unfold DiskM.len; rw [hfd]
      have hsm0 := R.small
      have use : ∀ f : DiskM.F, f.name = s.data.toList → f.b.length ≤ x.b.length → DiskM.used (DiskM.put M.l f) ≤ 16777216 := fun f hf hfl => by
        have u := (DiskM.used_put (l := M.l) f hr).1
        rw [hf, hln] at u
        omega
      have hF1 := R.row.put k 1 hk (by omega) ⟨s.data.toList, x.b.take q, x.sync⟩ (fun r hr hne => by
        rw [hkx]
        rcases (by omega : r = 0 ∨ r = 2) with rfl | rfl
        · show Value.string _ = Value.string _; rw [hxs]
        · rfl)
      have hF2 := hF1.put k 2 (by simpa using hk) (by omega) ⟨s.data.toList, x.b.take q, q⟩ (fun r hr hne => by
        rw [List.getElem_set_self]
        rcases (by omega : r = 0 ∨ r = 1) with rfl | rfl
        · rfl
        · rfl)
      have hp1 : DiskM.put M.l ⟨s.data.toList, x.b.take q, x.sync⟩ = M.l.set k ⟨s.data.toList, x.b.take q, x.sync⟩ := put_set hr k hk _ (by rw [hkx, hxs])
      have R1 := R.row_put (k * 3 + 1) _ _ (by simp) hF1 (by rw [← hp1]; exact use _ rfl (by simp; omega))
      have R2 := R1.row_put (k * 3 + 2) _ _ (by simp) hF2 (by rw [List.set_set, ← hps]; exact use _ rfl (by simp; omega))
      rw [List.set_set, ← hps] at R2
      have HRF := Lib.hid R2
      have hbt : fcell ⟨s.data.toList, x.b.take q, x.sync⟩ 1 = .string (b.extract 0 q) := by
        have e : (b.extract 0 q).data.toList = x.b.take q := by rw [← hb]; simp
        show Value.string ⟨(x.b.take q).toArray⟩ = _
        rw [← e]
      rw [hbt] at HRF
      have q0 : (0 : Int) ≤ (q : Int) := by omega
      have qb : (q : Int) ≤ (b.size : Int) := by omega
      have qb' : q ≤ b.size := by omega
      clear hv hdr ha R hr f1 f2 hb hfd hkx hxs hA hn hy hsy hx9 c0 hc hk bad fr hps hln hsm0 use hF1 hF2 hp1 R1 R2 hbt e1 hq hbl
      go_enter Try.func16, Try.ntmps16
      go_wp2_with fail
      go_at_call 39
      refine (have_any w g h M HR.out s).mono ?_
      rintro e w' ⟨rfl, rfl⟩
      rw [HA.out]
      go_wp2_with fail
      go_region
      go_wp2_with fail
      go_ret
      exact ⟨rfl, ⟨h, HRF.out.drew, .inl rfl⟩, (((Only.refl (fun k => k = g ∨ k = h) w).setCell (p := ⟨h, k * 3 + 1, none⟩) (.inl (.inr rfl)) _).setCell (p := ⟨h, k * 3 + 2, none⟩) (.inl (.inr rfl)) _).drew⟩
theorem RD.below {w W : World} {g h : Nat} {M : DiskM.D} (R : RD w g h M) (hb : Below w.heap.size w W) : RD W g h M := by
  have c : ∀ i, W.cell? ⟨g, i, none⟩ = w.cell? ⟨g, i, none⟩ := fun i => hb.cell R.lt
  obtain ⟨A, cc, c0, hc, hA⟩ := R.l
  exact ⟨R.ne, ⟨fun k => Nat.lt_of_lt_of_le (R.row.1 k) hb.size, fun i hi => by
    have hh := R.row.1 (by omega)
    have r : ∀ i, W.cell? ⟨h, i, none⟩ = w.cell? ⟨h, i, none⟩ := fun i => hb.cell hh
    have rf : ∀ i, W.frozen? ⟨h, i, none⟩ = w.frozen? ⟨h, i, none⟩ := fun i => hb.frozen hh
    obtain ⟨x, y, z, q⟩ := R.row.2 i hi
    exact ⟨(r _).trans x, (r _).trans y, (r _).trans z, fun j => (rf j).trans (q j)⟩⟩, Nat.lt_of_lt_of_le R.lt hb.size, ⟨A, cc, (c 0).trans c0, hc, hA⟩, (c 1).trans R.max, (c 2).trans R.down, fun i => (hb.frozen R.lt).trans (R.free i), R.few, R.small, fun k => (c 0).trans (R.real (Nat.le_trans hb.size k))⟩
theorem cell_of3 {w : World} {g : Nat} {a b c : Value} {t : TypeId} {fr : Nat × Nat} (h : w.heap[g]? = some (.cells #[a, b, c] t fr)) : w.cell? ⟨g, 0, none⟩ = some a ∧ w.cell? ⟨g, 1, none⟩ = some b ∧ w.cell? ⟨g, 2, none⟩ = some c := by
  refine ⟨?_, ?_, ?_⟩ <;> simp [World.cell?, h]
set_option maxRecDepth 20000 in
set_option maxHeartbeats 4000000 in
theorem rrename_any (w : World) (g h : Nat) (M : DiskM.D) (R : RD w g h M) (s t : ByteArray) (hr : DiskM.Rises M.l) :
    RDoes 18 #[.pointer (some ⟨g, 0, none⟩), .string s, .string t] (.int .i64 (DiskM.rename M s.data.toList t.data.toList).1) w g h (DiskM.rename M s.data.toList t.data.toList).2 := by
  have HR := Lib.hid R
  unfold RDoes
  cases hv : DiskM.have_ M s.data.toList with
  | error r =>
    have hdr : DiskM.rename M s.data.toList t.data.toList = (r, M) := by unfold DiskM.rename; rw [hv]
    rw [hdr]
    obtain ⟨ha, r0⟩ := have_err hv
    have HA := Lib.hid ha
    clear hv hdr ha R
    go_enter Try.func18, Try.ntmps18
    go_wp2_with fail
    go_at_call 39
    refine (have_any w g h M HR.out s).mono ?_
    rintro e w' ⟨rfl, rfl⟩
    rw [HA.out]
    go_wp2_with fail
    go_ret
    exact ⟨rfl, ⟨h, HR.out, .inl rfl⟩, Only.refl _ _⟩
  | ok x =>
    obtain ⟨k, hk, ha, hkx, hxs, hfd⟩ := have_at hv
    have HA := Lib.hid ha
    have HNM : Hid (∀ W, _) := fun W => rnamed_any t W
    cases hn : DiskM.named t.data.toList
    · have hdr : DiskM.rename M s.data.toList t.data.toList = (24, M) := by unfold DiskM.rename; rw [hv]; dsimp only; rw [hn, if_pos rfl]
      rw [hdr]
      have HN := Lib.hid hn
      clear hv hdr ha R hn hr hkx hxs hfd
      go_enter Try.func18, Try.ntmps18
      go_wp2_with fail
      go_at_call 39
      refine (have_any w g h M HR.out s).mono ?_
      rintro e w' ⟨rfl, rfl⟩
      rw [HA.out]
      go_wp2_with fail
      go_at_call 37
      refine (HNM.out _).mono ?_
      rintro e w' ⟨rfl, rfl⟩
      rw [HN.out]
      go_wp2_with fail
      go_ret
      exact ⟨rfl, ⟨h, HR.out, .inl rfl⟩, Only.refl _ _⟩
    · have HN := Lib.hid hn
      by_cases hst : s.data.toList = t.data.toList
      · have hdr : DiskM.rename M s.data.toList t.data.toList = (0, M) := by unfold DiskM.rename; rw [hv]; dsimp only; rw [hn, if_neg (by decide), if_pos hst]
        rw [hdr]
        have hcmp : (s.toList == t.toList) = true := by rw [ByteArray.toList_eq, ByteArray.toList_eq, hst]; simp
        clear hv hdr ha R hn hr hkx hxs hfd hst
        go_enter Try.func18, Try.ntmps18
        go_wp2_with fail
        go_at_call 39
        refine (have_any w g h M HR.out s).mono ?_
        rintro e w' ⟨rfl, rfl⟩
        rw [HA.out]
        go_wp2_with fail
        go_at_call 37
        refine (HNM.out _).mono ?_
        rintro e w' ⟨rfl, rfl⟩
        rw [HN.out]
        go_wp2_with fail
        go_ret
        exact ⟨rfl, ⟨h, HR.out, .inl rfl⟩, Only.refl _ _⟩
      · have hdr : DiskM.rename M s.data.toList t.data.toList = (0, { M with l := DiskM.put (DiskM.out M.l s.data.toList) ⟨t.data.toList, x.b, x.sync⟩ }) := by unfold DiskM.rename; rw [hv]; dsimp only; rw [hn, if_neg (by decide), if_neg hst]
        rw [hdr]
        have hcmp : (s.toList == t.toList) = false := by rw [ByteArray.toList_eq, ByteArray.toList_eq]; exact beq_eq_false_iff_ne.2 hst
        have HST := Lib.hid hst
        obtain ⟨A, c, c0, hc, hA⟩ := R.l
        have hA' : A = some ⟨h, 0, none⟩ := by
          rcases hA with ⟨_, z⟩ | z
          · omega
          · exact z
        subst hA'
        have f0 := R.row.each k 0 hk (by omega)
        have f1 := R.row.each k 1 hk (by omega)
        have f2 := R.row.each k 2 hk (by omega)
        rw [hkx] at f0 f1 f2
        obtain ⟨a0, ha0⟩ : ∃ a : ByteArray, (⟨x.name.toArray⟩ : ByteArray) = a := ⟨_, rfl⟩
        obtain ⟨b, hb⟩ : ∃ b : ByteArray, (⟨x.b.toArray⟩ : ByteArray) = b := ⟨_, rfl⟩
        obtain ⟨y, hy⟩ : ∃ y, x.sync = y := ⟨_, rfl⟩
        have f0' : w.cell? ⟨h, k * 3, none⟩ = some (.string a0) := by rw [← ha0]; exact f0
        have f1' : w.cell? ⟨h, k * 3 + 1, none⟩ = some (.string b) := by rw [f1, ← hb]; rfl
        have f2' : w.cell? ⟨h, k * 3 + 2, none⟩ = some (.int .i64 (y : Int)) := by rw [f2, ← hy]; rfl
        obtain ⟨n, hnl⟩ : ∃ n, M.l.length = n := ⟨_, rfl⟩
        have c0' := c0
        rw [hnl] at c0'
        have hc' : (n : Int) ≤ (c : Int) := by omega
        have k0 : (0 : Int) ≤ (k : Int) := by omega
        have k1 : (k : Int) < (n : Int) := by omega
        have hout : DiskM.out M.l s.data.toList = M.l.take k ++ M.l.drop (k + 1) := by rw [← hxs, ← hkx]; exact del_set hr k hk
        obtain ⟨u1, u2⟩ := DiskM.used_out (l := M.l) s.data.toList hr
        have hl : DiskM.len M.l s.data.toList = x.b.length := by unfold DiskM.len; rw [hfd]
        have hsm := R.small
        have hfw := R.few
        rw [hfd] at u2
        simp at u2
        have hol : (DiskM.out M.l s.data.toList).length = M.l.length - 1 := by omega
        have hro := DiskM.rises_out s.data.toList hr
        have hOUT : ∀ {W : World}, Below w.heap.size w W → Calls Try.prog 42 #[.pointer (some ⟨g, 0, none⟩), .int .i64 k] W fun e w' => e = .returned (.tuple #[]) ∧ (∃ h1, RD w' g h1 { M with l := DiskM.out M.l s.data.toList } ∧ (h1 = h ∨ W.heap.size ≤ h1)) ∧ Only (fun k => k = g ∨ k = h) W w' := fun {W} hW => by
          have RW := HR.out.below hW
          obtain ⟨Aw, cw, cw0, cwc, cwA⟩ := RW.l
          have eAw : Aw = some ⟨h, 0, none⟩ := by
            rcases cwA with ⟨_, z⟩ | z
            · omega
            · exact z
          subst eAw
          refine (out_walk W g h M.l M.l.length cw k rfl RW.row cw0 (RW.free 0) cwc hk RW.few RW.ne).mono ?_
          rintro e w' ⟨he, v, W2, rfl, hb2, ho2⟩
          rw [← hout] at ho2
          exact ⟨he, RW.new_row hb2 ho2 hol (by omega) (by omega), Only.ref hb2 v⟩
        have hMADE : ∀ {W : World} {h1 : Nat}, RD W g h1 { M with l := DiskM.out M.l s.data.toList } → _ := fun {W h1} R1 => made_any W g h1 _ R1 t hro (by
          have := DiskM.put_len (DiskM.out M.l s.data.toList) ⟨t.data.toList, [], 0⟩
          show (DiskM.put (DiskM.out M.l s.data.toList) _).length ≤ 1000
          omega)
        have huse : ∀ f : DiskM.F, f.name = t.data.toList → f.b = x.b → DiskM.used (DiskM.put (DiskM.out M.l s.data.toList) f) ≤ 16777216 := fun f hf hfb => by
          have u3 := (DiskM.used_put (l := DiskM.out M.l s.data.toList) f hro).1
          rw [hfb] at u3
          omega
        have HOUT : Hid (∀ {W : World}, Below w.heap.size w W → _) := @hOUT
        have HMADE : Hid (∀ {W : World} {h1 : Nat}, RD W g h1 { M with l := DiskM.out M.l s.data.toList } → _) := @hMADE
        have HUSE := Lib.hid huse
        have HB := Lib.hid hb
        have HY := Lib.hid hy
        have hgl := R.lt
        have hhl := R.row.1 (by omega)
        clear hv hdr ha R hn hr hkx hxs hfd hst c0 hc hA f0 f1 f2 ha0 hb hy hnl hout u1 u2 hl hsm hfw hol hro hOUT hMADE huse hk
        go_enter Try.func18, Try.ntmps18
        go_wp2_with fail
        go_at_call 39
        refine (have_any w g h M HR.out s).mono ?_
        rintro e w' ⟨rfl, rfl⟩
        rw [HA.out]
        go_wp2_with fail
        go_at_call 37
        refine (HNM.out _).mono ?_
        rintro e w' ⟨rfl, rfl⟩
        rw [HN.out]
        go_wp2_with fail
        go_at_call 42
        have bz : Below w.heap.size w (w.alloc (.cells #[.string a0, .string b, .int .i64 (y : Int)] 52)) := (Below.refl _ w).alloc (Nat.le_refl _) _
        refine (HOUT.out bz).mono ?_
        rintro e w2 ⟨rfl, ⟨h1, R1, hh1⟩, ho1⟩
        have hx2 : w2.heap[w.heap.size]? = some (.cells #[.string a0, .string b, .int .i64 (y : Int)] 52 (0, 0)) := (ho1.block w.heap.size (by simp) (fun z => by rcases z with z | z <;> omega)).trans (heap_alloc_new _ _)
        go_wp2_with fail
        go_at_call 38
        refine (HMADE.out R1).mono ?_
        rintro e w3 ⟨q, h2, l2, b2, s2, rfl, hlk, R2, hh2, ho2, hput, hc2⟩
        have hbox : w.heap.size ≠ h1 := by
          rcases hh1 with z | z
          · omega
          · simp at z; omega
        have hx3 : w3.heap[w.heap.size]? = some (.cells #[.string a0, .string b, .int .i64 (y : Int)] 52 (0, 0)) := (ho2.block w.heap.size (by have := ho1.size; simp at this; omega) (fun z => by rcases z with z | z <;> omega)).trans hx2
        obtain ⟨x0, x1, x2⟩ := cell_of3 hx3
        obtain ⟨hql, hlk⟩ := List.getElem?_eq_some_iff.1 hlk
        obtain ⟨A2, c2, d0, hc2', hA2⟩ := R2.l
        have eA2 : A2 = some ⟨h2, 0, none⟩ := by
          rcases hA2 with ⟨_, z⟩ | z
          · have hc3 : l2.length ≤ c2 := hc2'
            omega
          · exact z
        subst eA2
        have g0 := R2.row.each q 0 hql (by omega)
        have g1 := R2.row.each q 1 hql (by omega)
        have g2 := R2.row.each q 2 hql (by omega)
        have gf := (R2.row.2 q hql).2.2.2
        have gf0 := gf (q * 3)
        have gf1 := gf (q * 3 + 1)
        have gf2 := gf (q * 3 + 2)
        have hlq : ({ M with l := l2 } : DiskM.D).l[q] = ⟨t.data.toList, b2, s2⟩ := hlk
        rw [hlq] at g0 g1 g2
        have hF0 := R2.row.put q 0 hql (by omega) ⟨t.data.toList, b2, s2⟩ (fun r hr hne => by rw [hlq])
        have hsame : l2.set q ⟨t.data.toList, b2, s2⟩ = l2 := by rw [← hlk]; exact List.set_getElem_self hql
        have R3 := R2.row_put (q * 3 + 0) _ _ (by simp) hF0 (by show DiskM.used (l2.set q _) ≤ 16777216; rw [hsame]; exact R2.small)
        have hF1 := hF0.put q 1 (by simpa using hql) (by omega) ⟨t.data.toList, x.b, s2⟩ (fun r hr hne => by
          rw [List.getElem_set_self]
          rcases (by omega : r = 0 ∨ r = 2) with rfl | rfl
          · rfl
          · rfl)
        have R4 := R3.row_put (q * 3 + 1) _ _ (by simp) hF1 (by show DiskM.used ((l2.set q _).set q _) ≤ 16777216; rw [List.set_set, hput _ rfl]; exact HUSE.out _ rfl rfl)
        have hF2 := hF1.put q 2 (by simpa using hql) (by omega) ⟨t.data.toList, x.b, x.sync⟩ (fun r hr hne => by
          rw [List.getElem_set_self]
          rcases (by omega : r = 0 ∨ r = 1) with rfl | rfl
          · rfl
          · rfl)
        have R5 := R4.row_put (q * 3 + 2) _ _ (by simp) hF2 (by show DiskM.used (((l2.set q _).set q _).set q _) ≤ 16777216; rw [List.set_set, List.set_set, hput _ rfl]; exact HUSE.out _ rfl rfl)
        have hend : ((l2.set q ⟨t.data.toList, b2, s2⟩).set q ⟨t.data.toList, x.b, s2⟩).set q ⟨t.data.toList, x.b, x.sync⟩ = DiskM.put (DiskM.out M.l s.data.toList) ⟨t.data.toList, x.b, x.sync⟩ := by rw [List.set_set, List.set_set, hput _ rfl]
        have HEND := Lib.hid hend
        have e0 : fcell ⟨t.data.toList, b2, s2⟩ 0 = .string t := rfl
        have e1 : fcell ⟨t.data.toList, x.b, s2⟩ 1 = .string b := by rw [← HB.out]; rfl
        have e2 : fcell ⟨t.data.toList, x.b, x.sync⟩ 2 = .int .i64 (y : Int) := by rw [← HY.out]; rfl
        rw [e0, e1, e2, Nat.add_zero] at R5
        have HR5 := Lib.hid R5
        obtain ⟨v0, hv0⟩ : ∃ v, fcell ⟨t.data.toList, b2, s2⟩ 0 = v := ⟨_, rfl⟩
        obtain ⟨v1, hv1⟩ : ∃ v, fcell ⟨t.data.toList, b2, s2⟩ 1 = v := ⟨_, rfl⟩
        obtain ⟨v2, hv2⟩ : ∃ v, fcell ⟨t.data.toList, b2, s2⟩ 2 = v := ⟨_, rfl⟩
        rw [hv0, Nat.add_zero] at g0
        rw [hv1] at g1
        rw [hv2] at g2
        obtain ⟨n2, hn2⟩ : ∃ n2, l2.length = n2 := ⟨_, rfl⟩
        have d0' : w3.cell? ⟨g, 0, none⟩ = some (.slice (some ⟨h2, 0, none⟩) n2 c2) := by rw [← hn2]; exact d0
        have q0 : (0 : Int) ≤ (q : Int) := by omega
        have q1 : (q : Int) < (n2 : Int) := by
          have : q < n2 := by rw [← hn2]; exact hql
          omega
        have HHH : Hid (h2 = h ∨ w.heap.size ≤ h2) := by
          show h2 = h ∨ w.heap.size ≤ h2
          rcases hh2 with z | z
          · rw [z]
            rcases hh1 with z | z
            · exact .inl z
            · exact .inr (by simp at z; omega)
          · exact .inr (by have := ho1.size; simp at this; omega)
        have hOO : Only (fun k => k = g ∨ k = h) w w3 := ((Only.of_below bz).trans ho1 fun k hk => .inl hk).trans ho2 fun k hk => by
          rcases hk with z | z
          · exact .inl (.inl z)
          · rw [z]
            rcases hh1 with z | z
            · exact .inl (.inr z)
            · exact .inr (by simp at z; omega)
        have HOO := Lib.hid hOO
        have hne : w.heap.size ≠ h2 := by
          rcases hh2 with z | z
          · rw [z]; exact hbox
          · have := ho1.size; simp at this; omega
        clear R1 hh1 ho1 hx2 R2 hh2 ho2 hput hc2 hbox hx3 hlk hc2' hA2 gf hlq hF0 hsame R3 hF1 R4 hF2 R5 hend e0 e1 e2 hv0 hv1 hv2 hn2 d0 bz hOO hql
        go_wp2_with fail
        go_region
        go_wp2_with fail
        go_ret
        have hin : (h2 = g ∨ h2 = h) ∨ w.heap.size ≤ h2 := by
          rcases HHH.out with z | z
          · exact .inl (.inr z)
          · exact .inr z
        refine ⟨rfl, ⟨h2, ?_, HHH.out⟩, (((HOO.out.setCell (p := ⟨h2, q * 3, none⟩) hin _).setCell (p := ⟨h2, q * 3 + 1, none⟩) hin _).setCell (p := ⟨h2, q * 3 + 2, none⟩) hin _).drew⟩
        have hz := HR5.out.drew
        rw [HEND.out] at hz
        exact hz
end Go.Proofs.Ythclaolmmlgalaa
