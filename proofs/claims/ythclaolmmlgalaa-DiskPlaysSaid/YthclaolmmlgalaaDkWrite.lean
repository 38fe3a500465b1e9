/- Package disk's calls on the relation: Delete, Sync, Cut, Rename. -/
import Derived.Test.YthclaolmmlgalaaDkTurn
namespace Go.Proofs.Ythclaolmmlgalaa
open Go.RowKit Go.Maps
set_option linter.unusedVariables false

theorem have_ok {M : DiskM.D} {s : List UInt8} {x : DiskM.F} (h : DiskM.have_ M s = .ok x) : DiskM.find M.l s = some x := by
  unfold DiskM.have_ at h
  split at h
  · cases h
  · split at h
    · rename_i k; injection h with h; rw [k, h]
    · cases h
theorem only_new {F : Nat → Prop} {w W w' : World} (hb : Below w.heap.size w W) : ∀ k, New F W w' k → F k ∨ w.heap.size ≤ k := fun k hk => by
  rcases hk with x | ⟨x, _⟩
  · exact .inl x
  · exact .inr (Nat.le_trans hb.size x)
/-- The end of a call that put a file. -/
theorem put_end {w W w' : World} {F G : Nat → Prop} {g : Nat} {M : DiskM.D} (hb : Below w.heap.size w W) (hG : ∀ k, G k → F k ∨ w.heap.size ≤ k) (h : ∃ mo D, Dk w' (New G W w') (fun _ => False) g mo D M) (ho : Only G W w') :
    (∃ F', DiskR w' F' ⟨g, 0, none⟩ M ∧ ∀ k, F' k → F k ∨ w.heap.size ≤ k) ∧ Only F w w' := by
  obtain ⟨mo, D, h⟩ := h
  refine ⟨⟨_, ⟨g, mo, D, rfl, h⟩, fun k hk => ?_⟩, (Only.of_below (F := F) hb).trans ho hG⟩
  rcases hk with x | ⟨x, _⟩
  · exact hG k x
  · exact .inr (Nat.le_trans hb.size x)
theorem Dk.mineOf {w : World} {F : Nat → Prop} {E : List UInt8 → Prop} {g : Nat} {mo : Option Nat} {D : DataW Value} {M : DiskM.D} (h : Dk w F E g mo D M) {s : List UInt8} {A : Option Addr} {n c : Nat} {y : Value} (hf : fileAt D s = .agg #[.slice A n c, y]) :
    ∀ k, (Value.slice A n c).ownBlock = some k → F k ∧ k ≠ g ∧ mo ≠ some k ∧ ∀ t, t ≠ s → blockOf (fileAt D t) ≠ some k := fun k hk => by
  have e : blockOf (fileAt D s) = some k := by rw [hf]; exact hk
  obtain ⟨a, b, c, _⟩ := h.mine s k e
  exact ⟨a, b, c, fun t ht => h.two s t k (Ne.symm ht) e⟩
theorem Dk.fits {w : World} {F : Nat → Prop} {E : List UInt8 → Prop} {g : Nat} {mo : Option Nat} {D : DataW Value} {M : DiskM.D} (h : Dk w F E g mo D M) {s : List UInt8} {x : DiskM.F} (hx : DiskM.find M.l s = some x) (b : List UInt8) (sy : Nat) (hb : b.length ≤ x.b.length) :
    (DiskM.put M.l ⟨s, b, sy⟩).length ≤ 1000 ∧ DiskM.used (DiskM.put M.l ⟨s, b, sy⟩) ≤ 16777216 ∧ s.length ≤ 64 ∧ x.b.length ≤ 16777216 := by
  obtain ⟨h1, h2⟩ := DiskM.used_put (l := M.l) ⟨s, b, sy⟩ h.rises
  have h1' : DiskM.used (DiskM.put M.l ⟨s, b, sy⟩) + DiskM.len M.l s = DiskM.used M.l + b.length := h1
  have h2' : (DiskM.put M.l ⟨s, b, sy⟩).length = if (DiskM.find M.l s).isSome then M.l.length else M.l.length + 1 := h2
  have hl : DiskM.len M.l s = x.b.length := by unfold DiskM.len; rw [hx]
  have hle := DiskM.len_le M.l s
  rw [hx] at h2'
  have hs := (h.ok x (DiskM.find_mem hx)).1
  rw [DiskM.find_name hx] at hs
  have := h.few
  have := h.small
  exact ⟨by rw [h2']; simpa using h.few, by omega, hs, by omega⟩
theorem agg_inj {A A' : Option Addr} {n n' c c' : Nat} {y y' : Value} (h : Value.agg #[.slice A n c, y] = .agg #[.slice A' n' c', y']) : A = A' ∧ n = n' ∧ c = c' ∧ y = y' := by
  injection h with h
  injection h with h
  injection h with e1 e2
  injection e1 with e3 e4 e5
  injection e2 with e2
  exact ⟨e3, e4, e5, e2⟩
theorem dfind_ok {w : World} {F : Nat → Prop} {E : List UInt8 → Prop} {g : Nat} {mo : Option Nat} {D : DataW Value} {M : DiskM.D} (h : Dk w F E g mo D M) (s : ByteArray) (hs : s.size ≤ maxLen) {x : DiskM.F} (hv : DiskM.have_ M s.data.toList = .ok x) {A : Option Addr} {n c : Nat} {y : Int} (hf : fileAt D s.data.toList = .agg #[.slice A n c, .int .i64 y]) :
    Calls Try.prog 34 #[.pointer (some ⟨g, 0, none⟩), .string s] w fun e w' => e = .returned (.tuple #[.agg #[.slice A n c, .int .i64 y], .int .i64 0]) ∧ Below w.heap.size w w' := by
  have k := dfind h s hs
  rw [hv] at k
  refine k.mono ?_
  rintro e w' ⟨⟨A', n', c', y', he, h1, h2, h3, h4⟩, hb⟩
  obtain ⟨rfl, rfl, rfl, e4⟩ := agg_inj (hf.symm.trans h2)
  injection e4 with _ e4
  subst e4
  exact ⟨he, hb⟩
theorem dfind_err {w : World} {F : Nat → Prop} {E : List UInt8 → Prop} {g : Nat} {mo : Option Nat} {D : DataW Value} {M : DiskM.D} (h : Dk w F E g mo D M) (s : ByteArray) (hs : s.size ≤ maxLen) {r : Int} (hv : DiskM.have_ M s.data.toList = .error r) :
    Calls Try.prog 34 #[.pointer (some ⟨g, 0, none⟩), .string s] w fun e w' => (∃ y, e = .returned (.tuple #[.agg #[.slice none 0 0, .int .i64 y], .int .i64 r]) ∧ r ≠ 0) ∧ Below w.heap.size w w' := by
  have k := dfind h s hs
  rw [hv] at k
  refine k.mono ?_
  rintro e w' ⟨⟨A', n', c', y', he, h0, rfl, rfl, rfl⟩, hb⟩
  exact ⟨⟨y', he, h0⟩, hb⟩
/-- The file's own slice, put back under its name with another number of synced bytes. -/
theorem dput_own {w : World} {F : Nat → Prop} {g : Nat} {mo : Option Nat} {D : DataW Value} {M : DiskM.D} (h : Dk w F NoE g mo D M) (s : ByteArray) {x : DiskM.F} (hx : DiskM.find M.l s.data.toList = some x) {A : Option Addr} {n c : Nat} {y : Value} (hf : fileAt D s.data.toList = .agg #[.slice A n c, y]) (sy : Nat) (hsy : sy ≤ n) (hn : x.b.length = n) :
    Calls Try.prog 33 #[.pointer (some ⟨g, 0, none⟩), .string s, .agg #[.slice A n c, .int .i64 sy]] w fun e w' => e = .returned (.tuple #[]) ∧
      (∃ mo' D', Dk w' (New F w w') (fun _ => False) g mo' D' { M with l := DiskM.put M.l ⟨s.data.toList, x.b, sy⟩ }) ∧ Only F w w' := by
  subst hn
  obtain ⟨q1, q2, q3, q4⟩ := h.fits hx x.b sy (Nat.le_refl _)
  obtain ⟨A', c', hf', hrow⟩ := h.files _ _ hx
  obtain ⟨rfl, -, rfl, -⟩ := agg_inj (hf.symm.trans hf')
  exact dput h s (by simpa using q3) (fun t ht => ht.elim) A _ c x.b _ rfl (hrow fun z => z) (h.mineOf hf) hsy q1 q2
set_option maxRecDepth 20000 in
set_option maxHeartbeats 2000000 in
theorem dk_delete {w : World} {F : Nat → Prop} {p : Addr} {M : DiskM.D} (h : DiskR w F p M) (s : ByteArray) (hs : s.size ≤ maxLen) :
    Does DiskR 19 #[.pointer (some p), .string s] (.int .i64 (DiskM.delete M s.data.toList).1) w F p (DiskM.delete M s.data.toList).2 := by
  obtain ⟨g, mo, D, rfl, hd⟩ := h
  have HD := Lib.hid hd
  have hfi := dfind hd s hs
  clear hd
  have hdr : DiskM.delete M s.data.toList = match DiskM.have_ M s.data.toList with
    | .error e => (e, M)
    | .ok _ => (0, { M with l := DiskM.out M.l s.data.toList }) := rfl
  unfold Does
  rw [hdr]
  cases hv : DiskM.have_ M s.data.toList with
  | error r =>
    rw [hv] at hfi
    clear hv hdr
    dsimp only at hfi ⊢
    go_enter Try.func19, Try.ntmps19
    go_wp2_with fail
    go_at_call 34
    refine hfi.mono ?_
    rintro e w1 ⟨⟨A, n, c, y, rfl, r0, rfl, rfl, rfl⟩, hb⟩
    have HB := Lib.hid hb
    clear hb hfi
    go_wp2_with fail
    go_ret
    have bz := HB.out.alloc HB.out.size (.cells #[.slice none 0 0, .int .i64 y] 57)
    exact ⟨rfl, does_end (fun k hk => .inl hk) (HD.out.below bz) (Only.refl _ _) bz⟩
  | ok x =>
    have hx := have_ok hv
    rw [hv] at hfi
    clear hv hdr
    dsimp only at hfi ⊢
    have hre := fun {W : World} (hW : Below w.heap.size w W) => dremove (HD.out.below hW) s hs x hx
    have HRE : Hid (∀ {W : World} (hW : Below w.heap.size w W), _) := @hre
    clear hx hre
    go_enter Try.func19, Try.ntmps19
    go_wp2_with fail
    go_at_call 34
    refine hfi.mono ?_
    rintro e w1 ⟨⟨A, n, c, y, rfl, -⟩, hb⟩
    have HB := Lib.hid hb
    clear hb hfi
    go_wp2_with fail
    go_at_call 41
    have bz := HB.out.alloc HB.out.size (.cells #[.slice A n c, .int .i64 y] 57)
    refine (HRE.out bz).mono ?_
    rintro e w2 ⟨rfl, h2, ho⟩
    have H2 := Lib.hid h2
    have HO := Lib.hid ho
    have BZ := Lib.hid bz
    clear h2 ho bz
    go_wp2_with fail
    go_ret
    exact ⟨rfl, does_end (fun k hk => .inl hk) H2.out (HO.out.wider fun k hk => by rcases hk with rfl | hk; exact HD.out.Fg; exact HD.out.Fm k hk) BZ.out⟩
set_option maxRecDepth 20000 in
set_option maxHeartbeats 2000000 in
theorem dk_sync {w : World} {F : Nat → Prop} {p : Addr} {M : DiskM.D} (h : DiskR w F p M) (s : ByteArray) (hs : s.size ≤ maxLen) :
    Does DiskR 9 #[.pointer (some p), .string s] (.int .i64 (DiskM.sync M s.data.toList).1) w F p (DiskM.sync M s.data.toList).2 := by
  obtain ⟨g, mo, D, rfl, hd⟩ := h
  have HD := Lib.hid hd
  clear hd
  have hdr : DiskM.sync M s.data.toList = match DiskM.have_ M s.data.toList with
    | .error e => (e, M)
    | .ok f => (0, { M with l := DiskM.put M.l ⟨s.data.toList, f.b, f.b.length⟩ }) := rfl
  unfold Does
  rw [hdr]
  cases hv : DiskM.have_ M s.data.toList with
  | error r =>
    have hfi := dfind_err HD.out s hs hv
    clear hv hdr
    dsimp only
    go_enter Try.func9, Try.ntmps9
    go_wp2_with fail
    go_at_call 34
    refine hfi.mono ?_
    rintro e w1 ⟨⟨y, rfl, r0⟩, hb⟩
    have HB := Lib.hid hb
    clear hb hfi
    go_wp2_with fail
    go_ret
    have bz := HB.out.alloc HB.out.size (.cells #[.slice none 0 0, .int .i64 y] 57)
    exact ⟨rfl, does_end (fun k hk => .inl hk) (HD.out.below bz) (Only.refl _ _) bz⟩
  | ok x =>
    have hx := have_ok hv
    obtain ⟨A, c, hf, hrow⟩ := HD.out.files _ _ hx
    obtain ⟨-, -, -, q4⟩ := HD.out.fits hx x.b x.b.length (Nat.le_refl _)
    have hfi := dfind_ok HD.out s hs hv hf
    clear hv hdr hrow
    dsimp only
    obtain ⟨n, hn⟩ : ∃ n, x.b.length = n := ⟨_, rfl⟩
    obtain ⟨y, hy⟩ : ∃ y, x.sync = y := ⟨_, rfl⟩
    rw [hn] at hf hfi
    rw [hy] at hf hfi
    have hpu := fun {W : World} (hW : Below w.heap.size w W) => dput_own (HD.out.below hW) s hx hf n (Nat.le_refl _) hn
    have HPU : Hid (∀ {W : World}, Below w.heap.size w W → _) := @hpu
    have hq : (n : Int) ≤ 16777216 := by omega
    rw [hn]
    clear hx hf q4 hn hpu hy
    go_enter Try.func9, Try.ntmps9
    go_wp2_with fail
    go_at_call 34
    refine hfi.mono ?_
    rintro e w1 ⟨rfl, hb⟩
    have HB := Lib.hid hb
    clear hb hfi
    go_wp2_with fail
    go_at_call 33
    have bz := HB.out.alloc HB.out.size (.cells #[.slice A n c, .int .i64 n] 57)
    refine (HPU.out bz).mono ?_
    rintro e w2 ⟨rfl, h2, ho⟩
    have H2 := Lib.hid h2
    have HO := Lib.hid ho
    have BZ := Lib.hid bz
    clear h2 ho bz
    go_wp2_with fail
    go_ret
    exact ⟨rfl, put_end BZ.out (fun k hk => .inl hk) H2.out HO.out⟩
set_option maxRecDepth 20000 in
set_option maxHeartbeats 2000000 in
theorem dk_cut {w : World} {F : Nat → Prop} {p : Addr} {M : DiskM.D} (h : DiskR w F p M) (s : ByteArray) (t : Int) (hs : s.size ≤ maxLen) :
    Does DiskR 15 #[.pointer (some p), .string s, .int .i64 t] (.int .i64 (DiskM.cut M s.data.toList t).1) w F p (DiskM.cut M s.data.toList t).2 := by
  obtain ⟨g, mo, D, rfl, hd⟩ := h
  have HD := Lib.hid hd
  clear hd
  have hdr : DiskM.cut M s.data.toList t = match DiskM.have_ M s.data.toList with
    | .error e => (e, M)
    | .ok f => if t < 0 ∨ (f.b.length : Int) < t then (7, M) else (0, { M with l := DiskM.put M.l ⟨s.data.toList, f.b.take t.toNat, t.toNat⟩ }) := rfl
  unfold Does
  rw [hdr]
  cases hv : DiskM.have_ M s.data.toList with
  | error r =>
    have hfi := dfind_err HD.out s hs hv
    clear hv hdr
    dsimp only
    go_enter Try.func15, Try.ntmps15
    go_wp2_with fail
    go_at_call 34
    refine hfi.mono ?_
    rintro e w1 ⟨⟨y, rfl, r0⟩, hb⟩
    have HB := Lib.hid hb
    clear hb hfi
    go_wp2_with fail
    go_ret
    have bz := HB.out.alloc HB.out.size (.cells #[.slice none 0 0, .int .i64 y] 57)
    exact ⟨rfl, does_end (fun k hk => .inl hk) (HD.out.below bz) (Only.refl _ _) bz⟩
  | ok x =>
    have hx := have_ok hv
    obtain ⟨A, c, hf, hrow⟩ := HD.out.files _ _ hx
    have hfi := dfind_ok HD.out s hs hv hf
    obtain ⟨-, -, -, q4⟩ := HD.out.fits hx x.b x.b.length (Nat.le_refl _)
    clear hv hdr
    dsimp only
    obtain ⟨n, hn⟩ : ∃ n, x.b.length = n := ⟨_, rfl⟩
    obtain ⟨y, hy⟩ : ∃ y, x.sync = y := ⟨_, rfl⟩
    have hq : (n : Int) ≤ 16777216 := by omega
    by_cases bad : t < 0 ∨ (n : Int) < t
    · rw [hn, if_pos bad]
      rw [hn] at hf hfi
      rw [hy] at hf hfi
      have two : t < 0 ∨ (0 ≤ t ∧ (n : Int) < t) := by omega
      clear hx hf q4 hn hy hrow bad
      rcases two with h0 | ⟨h0, h1⟩
      all_goals
        go_enter Try.func15, Try.ntmps15
        go_wp2_with fail
        go_at_call 34
        refine hfi.mono ?_
        rintro e w1 ⟨rfl, hb⟩
        have HB := Lib.hid hb
        clear hb hfi
        go_wp2_with fail
        go_ret
        have bz := HB.out.alloc HB.out.size (.cells #[.slice A n c, .int .i64 y] 57)
        exact ⟨rfl, does_end (fun k hk => .inl hk) (HD.out.below bz) (Only.refl _ _) bz⟩
    · rw [hn, if_neg bad]
      obtain ⟨k, rfl⟩ : ∃ k : Nat, t = (k : Int) := ⟨t.toNat, by omega⟩
      have e1 : ((k : Int)).toNat = k := by omega
      rw [e1]
      obtain ⟨A', c', eA, -, hAc, hbs⟩ := Bs.of_own (hrow fun z => z)
      injection eA with z1 z2 z3
      subst z1 z3
      obtain ⟨Aq, cq, eq, -, hcq⟩ := own_slice (hrow fun z => z)
      injection eq with z4 z5 z6
      have hcc : x.b.length ≤ c := by omega
      have hkn : k ≤ x.b.length := by omega
      have hfr := fun {W : World} (hW : Below w.heap.size w W) => front_any W A x.b c (y : Int) k hkn hAc hcc (hbs.later hW) (by omega) n hn
      have HFR : Hid (∀ {W : World}, Below w.heap.size w W → _) := @hfr
      obtain ⟨q1, q2, q3, -⟩ := HD.out.fits hx (x.b.take k) k (by simp; omega)
      have hpu : ∀ {W W1 : World} {v : Value}, Below w.heap.size w W → W1.ownsRow W.heap.size 5 1 v k ((x.b.take k).map bv) → Below W.heap.size W W1 →
          Calls Try.prog 33 #[.pointer (some ⟨g, 0, none⟩), .string s, .agg #[v, .int .i64 k]] W1 fun e w' => e = .returned (.tuple #[]) ∧
            (∃ mo' D', Dk w' (New (New F W W1) W1 w') (fun _ => False) g mo' D' { M with l := DiskM.put M.l ⟨s.data.toList, x.b.take k, k⟩ }) ∧ Only (New F W W1) W1 w' := fun {W W1 v} hW ho hb => by
        obtain ⟨A1, c1, rfl, -, -⟩ := own_slice ho
        have hd := (HD.out.below hW).below hb
        refine dput (hd.wide (G := New F W W1) fun k hk => .inl hk) s (by simpa using q3) (fun t ht => ht.elim) A1 k c1 (x.b.take k) k (by simp; omega) (row_base ho (Nat.zero_le _)) (fun b hk => ?_) (Nat.le_refl _) q1 q2
        have hnew := row_new ho hk
        have hl := fun b hb => (HD.out.below hW).low (b := b) hb
        exact ⟨.inr hnew, fun e => by have := hl _ (.inl e); omega, fun e => by have := hl _ (.inr (.inl e)); omega, fun t _ e => by have := hl _ (.inr (.inr ⟨t, fun z => z, e⟩)); omega⟩
      have HPU : Hid (∀ {W W1 : World} {v : Value}, Below w.heap.size w W → _) := @hpu
      rw [hn] at hf hfi
      rw [hy] at hf hfi
      have k0 : (0 : Int) ≤ (k : Int) := by omega
      have kn : (k : Int) ≤ (n : Int) := by omega
      clear hx hf q4 hn hy hrow bad hfr hpu q1 q2 q3 hkn hcc hcq hAc hbs z2 z4 z5 z6 e1
      go_enter Try.func15, Try.ntmps15
      go_wp2_with fail
      go_at_call 34
      refine hfi.mono ?_
      rintro e w1 ⟨rfl, hb⟩
      have HB := Lib.hid hb
      clear hb hfi
      go_wp2_with fail
      go_at_call 40
      have bz := HB.out.alloc HB.out.size (.cells #[.slice A n c, .int .i64 y] 57)
      refine (HFR.out bz).mono ?_
      rintro e w2 ⟨v, rfl, ho, hb2⟩
      have HPU2 := Lib.hid (HPU.out bz ho hb2)
      have BZ := Lib.hid (bz.trans (hb2.mono bz.size))
      have HNW : Hid (∀ b, New F (w1.alloc (.cells #[.slice A n c, .int .i64 y] 57)) w2 b → F b ∨ w.heap.size ≤ b) := only_new bz
      clear bz ho hb2
      go_wp2_with fail
      go_at_call 33
      refine HPU2.out.mono ?_
      rintro e w3 ⟨rfl, h3, ho⟩
      have H3 := Lib.hid h3
      have HO := Lib.hid ho
      clear h3 ho
      go_wp2_with fail
      go_ret
      exact ⟨rfl, put_end BZ.out HNW.out H3.out HO.out⟩
end Go.Proofs.Ythclaolmmlgalaa
