/- Package disk's calls on the relation: Rename, Append. -/
import Derived.Test.YthclaolmmlgalaaDkWrite
namespace Go.Proofs.Ythclaolmmlgalaa
open Go.RowKit Go.Maps
set_option linter.unusedVariables false

theorem DiskM.put_out : ∀ {l : List DiskM.F} {s : List UInt8} {f : DiskM.F}, DiskM.Rises l → DiskM.find l s = some f → DiskM.put (DiskM.out l s) ⟨s, f.b, f.sync⟩ = l
  | [], s, f, _, h => by cases h
  | g :: r, s, f, hr, h => by
    obtain ⟨h1, h2⟩ := List.pairwise_cons.1 hr
    rw [DiskM.find_cons] at h
    by_cases e : g.name = s
    · rw [if_pos e] at h
      injection h with h
      subst h e
      have n : DiskM.find r g.name = none := DiskM.find_low fun x hx => h1 x hx
      have o : DiskM.out (g :: r) g.name = r := by
        have := DiskM.out_none n
        unfold DiskM.out at this ⊢
        rw [List.filter_cons, if_neg (by simp), this]
      rw [o]
      cases r with
      | nil => rfl
      | cons x r' =>
        have k := h1 x (by simp)
        rw [DiskM.put, if_neg (fun z => DiskM.lt_ne k z.symm), if_pos k]
    · rw [if_neg e] at h
      have o : DiskM.out (g :: r) s = g :: DiskM.out r s := by
        unfold DiskM.out
        rw [List.filter_cons, if_pos (by simp [e])]
      have k : DiskM.lt g.name s = true := by
        have := h1 f (DiskM.find_mem h)
        rwa [DiskM.find_name h] at this
      have k' : DiskM.lt s g.name = false := by
        cases q : DiskM.lt s g.name with
        | false => rfl
        | true => exact absurd rfl (DiskM.lt_ne (DiskM.lt_trans q k))
      rw [o, DiskM.put, if_neg e, if_neg (by simp [k']), DiskM.put_out h2 h]
theorem rename_ok {M : DiskM.D} {s t : List UInt8} {x : DiskM.F} (hr : DiskM.Rises M.l) (hv : DiskM.have_ M s = .ok x) (ht : DiskM.named t = true) : DiskM.rename M s t = (0, { M with l := DiskM.put (DiskM.out M.l s) ⟨t, x.b, x.sync⟩ }) := by
  unfold DiskM.rename
  rw [hv]
  dsimp only
  rw [ht, if_neg (by decide)]
  split
  · rename_i e
    subst e
    rw [DiskM.put_out hr (have_ok hv)]
  · rfl
theorem named_le {s : ByteArray} (h : DiskM.named s.data.toList = true) : s.size ≤ 64 := by
  unfold DiskM.named at h
  have := (decide_eq_true_iff.1 h).2
  simpa using this
set_option maxRecDepth 20000 in
set_option maxHeartbeats 2000000 in
theorem dk_rename {w : World} {F : Nat → Prop} {p : Addr} {M : DiskM.D} (h : DiskR w F p M) (s t : ByteArray) (hs : s.size ≤ maxLen) (ht : t.size ≤ maxLen) :
    Does DiskR 17 #[.pointer (some p), .string s, .string t] (.int .i64 (DiskM.rename M s.data.toList t.data.toList).1) w F p (DiskM.rename M s.data.toList t.data.toList).2 := by
  obtain ⟨g, mo, D, rfl, hd⟩ := h
  have HD := Lib.hid hd
  clear hd
  unfold Does
  cases hv : DiskM.have_ M s.data.toList with
  | error r =>
    have hdr : DiskM.rename M s.data.toList t.data.toList = (r, M) := by unfold DiskM.rename; rw [hv]
    rw [hdr]
    have hfi := dfind_err HD.out s hs hv
    clear hv hdr
    go_enter Try.func17, Try.ntmps17
    go_wp2_with fail
    go_at_call 34
    refine hfi.mono ?_
    rintro e w1 ⟨⟨y, rfl, r0⟩, hb⟩
    have HB := Lib.hid hb
    clear hb hfi
    go_wp2_with fail
    go_ret
    have bz := HB.out.alloc HB.out.size (.cells #[.slice none 0 0, .int .i64 y] 57)
    exact ⟨rfl, does_end (fun k hk => .inl hk) (HD.out.below bz) (Only.refl _ _) bz⟩
  | ok x =>
    have hx := have_ok hv
    obtain ⟨A, c, hf, hrow⟩ := HD.out.files _ _ hx
    have hfi := dfind_ok HD.out s hs hv hf
    have hnm := fun W => isName_any W t ht
    cases hn : DiskM.named t.data.toList
    · have hdr : DiskM.rename M s.data.toList t.data.toList = (24, M) := by unfold DiskM.rename; rw [hv]; dsimp only; rw [hn, if_pos rfl]
      rw [hdr]
      simp only [hn] at hnm
      obtain ⟨n, hln⟩ : ∃ n, x.b.length = n := ⟨_, rfl⟩
      obtain ⟨y, hy⟩ : ∃ y, x.sync = y := ⟨_, rfl⟩
      rw [hln, hy] at hfi
      clear hv hdr hx hf hrow hln hy hn
      go_enter Try.func17, Try.ntmps17
      go_wp2_with fail
      go_at_call 34
      refine hfi.mono ?_
      rintro e w1 ⟨rfl, hb⟩
      have HB := Lib.hid hb
      clear hb hfi
      go_wp2_with fail
      go_at_call 32
      refine (hnm _).mono ?_
      rintro e w2 ⟨rfl, rfl⟩
      clear hnm
      go_wp2_with fail
      go_ret
      have bz := HB.out.alloc HB.out.size (.cells #[.slice A n c, .int .i64 y] 57)
      exact ⟨rfl, does_end (fun k hk => .inl hk) (HD.out.below bz) (Only.refl _ _) bz⟩
    · rw [rename_ok HD.out.rises hv hn]
      simp only [hn] at hnm
      have hre := fun {W : World} (hW : Below w.heap.size w W) => dremove (HD.out.below hW) s hs x hx
      have HRE : Hid (∀ {W : World}, Below w.heap.size w W → _) := @hre
      have hpu : ∀ {W W2 : World}, Below w.heap.size w W → Dk W2 F NoE g mo (D.del (.string s.data.toList)) { M with l := DiskM.out M.l s.data.toList } → Only (fun k => k = g ∨ mo = some k) W W2 →
          Calls Try.prog 33 #[.pointer (some ⟨g, 0, none⟩), .string t, .agg #[.slice A x.b.length c, .int .i64 (x.sync : Int)]] W2 fun e w' => e = .returned (.tuple #[]) ∧
            (∃ mo' D', Dk w' (New F W2 w') (fun _ => False) g mo' D' { M with l := DiskM.put (DiskM.out M.l s.data.toList) ⟨t.data.toList, x.b, x.sync⟩ }) ∧ Only F W2 w' := fun {W W2} hW h2 ho => by
        have hd := HD.out
        have hsm := hd.small
        have hfw := hd.few
        obtain ⟨u1, u2⟩ := DiskM.used_out (l := M.l) s.data.toList hd.rises
        obtain ⟨u3, u4⟩ := DiskM.used_put (l := DiskM.out M.l s.data.toList) ⟨t.data.toList, x.b, x.sync⟩ (DiskM.rises_out _ hd.rises)
        have u3' : DiskM.used (DiskM.put (DiskM.out M.l s.data.toList) ⟨t.data.toList, x.b, x.sync⟩) + DiskM.len (DiskM.out M.l s.data.toList) t.data.toList = DiskM.used (DiskM.out M.l s.data.toList) + x.b.length := u3
        have hl : DiskM.len M.l s.data.toList = x.b.length := by unfold DiskM.len; rw [hx]
        rw [hx] at u2
        have hpl := DiskM.put_len (DiskM.out M.l s.data.toList) ⟨t.data.toList, x.b, x.sync⟩
        simp at u2
        have hm := hd.mineOf hf
        have hr2 : W2.ownsRow 0 5 1 (.slice A x.b.length c) x.b.length (x.b.map bv) := row_same (hrow fun z => z) fun k hk => by
          have hlt := (row_new (hrow fun z => z) hk).2
          obtain ⟨_, m2, m3, _⟩ := hm k hk
          rw [ho.block k (Nat.lt_of_lt_of_le hlt hW.size) (fun z => by rcases z with z | z; exact m2 z; exact m3 z), hW.block k hlt]
        refine dput h2 t (named_le hn) (fun q hq => hq.elim) A _ c x.b x.sync rfl hr2 (fun k hk => ?_) ((hd.ok x (DiskM.find_mem hx)).2) (by show (DiskM.put (DiskM.out M.l s.data.toList) _).length ≤ 1000; omega) (by show DiskM.used (DiskM.put (DiskM.out M.l s.data.toList) _) ≤ 16777216; omega)
        obtain ⟨m1, m2, m3, m4⟩ := hm k hk
        refine ⟨m1, m2, m3, fun q _ => ?_⟩
        rw [fileAt_del]
        split
        · intro z; cases z
        · rename_i z; exact m4 q (Ne.symm z)
      have HPU : Hid (∀ {W W2 : World}, Below w.heap.size w W → _) := @hpu
      obtain ⟨n, hln⟩ : ∃ n, x.b.length = n := ⟨_, rfl⟩
      obtain ⟨y, hy⟩ : ∃ y, x.sync = y := ⟨_, rfl⟩
      rw [hln, hy] at hfi HPU
      rw [hy]
      clear hv hx hf hrow hln hy hn hpu hre
      go_enter Try.func17, Try.ntmps17
      go_wp2_with fail
      go_at_call 34
      refine hfi.mono ?_
      rintro e w1 ⟨rfl, hb⟩
      have HB := Lib.hid hb
      clear hb hfi
      go_wp2_with fail
      go_at_call 32
      refine (hnm _).mono ?_
      rintro e w2 ⟨rfl, rfl⟩
      clear hnm
      go_wp2_with fail
      go_at_call 41
      have bz := HB.out.alloc HB.out.size (.cells #[.slice A n c, .int .i64 y] 57)
      refine (HRE.out bz).mono ?_
      rintro e w3 ⟨rfl, h3, ho⟩
      have hcell := ho.block w1.heap.size (by simp) (fun z => by
        have := HD.out.below HB.out |>.bare.lt
        rcases z with z | z
        · omega
        · have h9 := (HD.out.below HB.out).low (.inr (.inl z)); omega)
      rw [heap_alloc_new] at hcell
      obtain ⟨k0, k1⟩ := cell_of2 hcell
      have HPU2 := Lib.hid (HPU.out bz h3 ho)
      have BZ := Lib.hid bz
      have HO := Lib.hid ho
      clear h3 ho bz hcell
      go_wp2_with fail
      go_at_call 33
      refine HPU2.out.mono ?_
      rintro e w4 ⟨rfl, ⟨mo', D', h4⟩, ho⟩
      have H4 := Lib.hid h4
      have HO2 := Lib.hid ho
      clear h4 ho
      go_wp2_with fail
      go_ret
      have hFo : Only F (w1.alloc (.cells #[.slice A n c, .int .i64 y] 57)) w3 := HO.out.wider fun k hk => by rcases hk with rfl | hk; exact HD.out.Fg; exact HD.out.Fm k hk
      refine ⟨rfl, ⟨_, ⟨g, mo', D', rfl, H4.out⟩, fun k hk => ?_⟩, (Only.of_below (F := F) BZ.out).trans (hFo.trans HO2.out fun k hk => .inl hk) fun k hk => .inl hk⟩
      rcases hk with x | ⟨x, _⟩
      · exact .inl x
      · exact .inr (Nat.le_trans (Nat.le_trans BZ.out.size HO.out.size) x)
end Go.Proofs.Ythclaolmmlgalaa
