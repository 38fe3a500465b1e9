/- Package disk's Append on the relation. -/
import Derived.Test.YthclaolmmlgalaaDkMore
namespace Go.Proofs.Ythclaolmmlgalaa
open Go.RowKit Go.Maps
set_option linter.unusedVariables false

theorem Only.grownO {F : Nat → Prop} {a w w' : World} {o : Option Nat} (h : Only F a w) (hg : w.grownBy w' o) (hb : ∀ b, o = some b → F b ∨ a.heap.size ≤ b) : Only F a w' :=
  ⟨hg.os.trans h.os, hg.tape.trans h.tape, hg.output.trans h.output, Nat.le_trans h.size hg.size, fun k hk hf => by
    rw [hg.block k (Nat.lt_of_lt_of_le hk h.size) (fun e => by rcases hb k e.symm with x | x; exact hf x; omega)]
    exact h.block k hk hf⟩
theorem named_any (W : World) (s : ByteArray) :
    Calls Try.prog 32 #[.string s] W fun e w' => e = .returned (.bool (DiskM.named s.data.toList)) ∧ W = w' := by
  by_cases h : s.size ≤ maxLen
  · exact isName_any W s h
  · have e : s.data.toList.length = s.size := by simp
    have h1 : 1 ≤ s.size := by unfold maxLen at h; omega
    have h2 : ¬ s.size ≤ 64 := by unfold maxLen at h; omega
    have hr : DiskM.named s.data.toList = false := by unfold DiskM.named; rw [e]; simp [h1, h2]
    rw [hr]
    clear hr e h
    go_enter Try.func32, Try.ntmps32
    go_wp2_with fail
    go_ret
    exact ⟨by first | rfl | (congr 3; simp; omega), rfl⟩
/-- What Append answers where nothing is written. -/
theorem append_no {M : DiskM.D} {s b : List UInt8} {r : Int} (h : (M.down = true ∧ r = 23) ∨ (M.down = false ∧ DiskM.named s = false ∧ r = 24) ∨ (M.down = false ∧ DiskM.named s = true ∧ (M.max : Int) < DiskM.used M.l + b.length ∧ r = 9)) : DiskM.append M s b = (r, M) := by
  unfold DiskM.append
  rcases h with ⟨h, rfl⟩ | ⟨h, k, rfl⟩ | ⟨h, k, l, rfl⟩
  · rw [if_pos h]
  · rw [if_neg (by simp [h]), if_pos k]
  · rw [if_neg (by simp [h]), if_neg (by simp [k]), if_pos (by omega)]
/-- .. and where something is. -/
theorem append_yes {M : DiskM.D} {s b : List UInt8} (h : M.down = false) (k : DiskM.named s = true) (l : (DiskM.used M.l : Int) + b.length ≤ M.max) : ∃ b0 sy, DiskM.append M s b = (0, { M with l := DiskM.put M.l ⟨s, b0 ++ b, sy⟩ }) ∧ b0.length = DiskM.len M.l s ∧
    ((∃ x, DiskM.find M.l s = some x ∧ b0 = x.b ∧ sy = x.sync) ∨ (DiskM.find M.l s = none ∧ b0 = [] ∧ sy = 0)) := by
  unfold DiskM.append DiskM.len
  rw [if_neg (by simp [h]), if_neg (by simp [k]), if_neg (by omega)]
  cases e : DiskM.find M.l s with
  | none => exact ⟨[], 0, rfl, rfl, .inr ⟨rfl, rfl, rfl⟩⟩
  | some x => exact ⟨x.b, x.sync, rfl, rfl, .inl ⟨x, rfl, rfl, rfl⟩⟩
theorem Dk.rowOf {w : World} {F : Nat → Prop} {g : Nat} {mo : Option Nat} {D : DataW Value} {M : DiskM.D} (h : Dk w F NoE g mo D M) {s b0 : List UInt8} {sy : Nat}
    (k : (∃ x, DiskM.find M.l s = some x ∧ b0 = x.b ∧ sy = x.sync) ∨ (DiskM.find M.l s = none ∧ b0 = [] ∧ sy = 0)) :
    ∃ A c, fileAt D s = .agg #[.slice A b0.length c, .int .i64 (sy : Int)] ∧ w.ownsRow 0 5 1 (.slice A b0.length c) b0.length (b0.map bv) ∧ sy ≤ b0.length := by
  rcases k with ⟨x, hx, rfl, rfl⟩ | ⟨hx, rfl, rfl⟩
  · obtain ⟨A, c, hf, hr⟩ := h.files _ _ hx
    exact ⟨A, c, hf, hr fun z => z, (h.ok x (DiskM.find_mem hx)).2⟩
  · exact ⟨none, 0, fileAt_none (by rw [h.keys, hx]; rfl), ⟨rfl, .inl ⟨rfl, rfl⟩⟩, Nat.le_refl _⟩
set_option maxRecDepth 20000 in
set_option maxHeartbeats 4000000 in
theorem dk_append {w : World} {F : Nat → Prop} {p : Addr} {M : DiskM.D} (h : DiskR w F p M) (s : ByteArray) (B : Option Addr) (b : List UInt8) (cb : Nat) (hl : b.length ≤ 4096) (hB : B = none → cb = 0) (hb : Bs w w.heap.size B b) (hk : M.l.length < 1000) :
    Does DiskR 8 #[.pointer (some p), .string s, .slice B b.length cb] (.int .i64 (DiskM.append M s.data.toList b).1) w F p (DiskM.append M s.data.toList b).2 := by
  obtain ⟨g, mo, D, rfl, hd⟩ := h
  have HD := Lib.hid hd
  have HBs := Lib.hid hb
  have HBn := Lib.hid hB
  have hnm := fun W => named_any W s
  clear hb hB
  unfold Does
  have hbare := hd.bare
  have hsmall := hd.small
  have hroom := hd.room
  clear hd
  cases hdn : M.down
  · rw [hdn] at hbare
    cases hn : DiskM.named s.data.toList
    · rw [append_no (.inr (.inl ⟨hdn, hn, rfl⟩))]
      simp only [hn] at hnm
      have HBR := Lib.hid hbare
      obtain ⟨n, hln⟩ : ∃ n, b.length = n := ⟨_, rfl⟩
      rw [hln]
      clear hsmall hroom hdn hn hbare hl hk hln
      go_enter Try.func8, Try.ntmps8
      go_wp2_with fail
      go_at_call 31
      refine (refusal_any _ g mo D _ _ false HBR.out).mono ?_
      rintro e w1 ⟨rfl, rfl⟩
      go_wp2_with fail
      go_at_call 32
      refine (hnm _).mono ?_
      rintro e w2 ⟨rfl, rfl⟩
      clear hnm
      go_wp2_with fail
      go_ret
      exact ⟨rfl, does_end (fun k hk => .inl hk) HD.out (Only.refl _ _) (Below.refl _ _)⟩
    · simp only [hn] at hnm
      have HBR := Lib.hid hbare
      have c1 := hbare.c1
      have c2 := hbare.c2
      obtain ⟨n, hln⟩ : ∃ n, b.length = n := ⟨_, rfl⟩
      obtain ⟨u, hu⟩ : ∃ u, DiskM.used M.l = u := ⟨_, rfl⟩
      obtain ⟨r, hr⟩ : ∃ r, M.max = r := ⟨_, rfl⟩
      have bn : (n : Int) ≤ 4096 := by omega
      have bu : (u : Int) ≤ 16777216 := by omega
      by_cases hfull : (M.max : Int) < DiskM.used M.l + b.length
      · rw [append_no (.inr (.inr ⟨hdn, hn, hfull, rfl⟩))]
        rw [hln]
        rw [hu, hln, hr] at hfull
        rw [hr] at c1
        rw [hu] at c2
        clear hsmall hroom hdn hn hbare hl hk hln hu hr
        go_enter Try.func8, Try.ntmps8
        go_wp2_with fail
        go_at_call 31
        refine (refusal_any _ g mo D _ _ false HBR.out).mono ?_
        rintro e w1 ⟨rfl, rfl⟩
        go_wp2_with fail
        go_at_call 32
        refine (hnm _).mono ?_
        rintro e w2 ⟨rfl, rfl⟩
        clear hnm
        go_wp2_with fail
        go_region
        go_wp2_with fail
        go_ret
        have bz : Below w.heap.size w w.drew := (Below.refl _ w).drew
        exact ⟨rfl, does_end (fun k hk => .inl hk) (HD.out.below bz) (Only.refl _ _) bz⟩
      · obtain ⟨b0, sy, heq, hl0, hcase⟩ := append_yes (b := b) hdn hn (by omega)
        rw [heq]
        obtain ⟨A, c, hf, hrow, hsy⟩ := HD.out.rowOf hcase
        have hm := HD.out.mineOf hf
        have hs64 := named_le hn
        have hln0 := DiskM.len_le M.l s.data.toList
        have hROW : ∀ {W : World}, Below w.heap.size w W → W.ownsRow 0 5 1 (.slice A b0.length c) b0.length (b0.map bv) := fun {W} hW => row_same hrow fun k hk => hW.block k (row_new hrow hk).2
        have hpu : ∀ {W3 : World} {A2 : Option Addr} {c2 : Nat}, Only (fun k => (Value.slice A b0.length c).ownBlock = some k) w W3 → W3.ownsRow 0 5 1 (.slice A2 (b0.length + b.length) c2) (b0.length + b.length) ((b0 ++ b).map bv) →
            (∀ k, (Value.slice A2 (b0.length + b.length) c2).ownBlock = some k → (Value.slice A b0.length c).ownBlock = some k ∨ w.heap.size ≤ k) →
            Calls Try.prog 33 #[.pointer (some ⟨g, 0, none⟩), .string s, .agg #[.slice A2 (b0.length + b.length) c2, .int .i64 (sy : Int)]] W3 fun e w' => e = .returned (.tuple #[]) ∧
              (∃ mo' D', Dk w' (New (New F w W3) W3 w') (fun _ => False) g mo' D' { M with l := DiskM.put M.l ⟨s.data.toList, b0 ++ b, sy⟩ }) ∧ Only (New F w W3) W3 w' := fun {W3 A2 c2} ho hr2 hw => by
          have hd := HD.out
          have hlow := fun b hb => hd.low (b := b) hb
          have hd3 : Dk W3 (New F w W3) (fun t => t = s.data.toList) g mo D M := by
            refine ((hd.less (E' := fun t => t = s.data.toList) fun t z => z.elim).same ho.size fun k hk => ho.block k ?_ fun z => ?_).wide fun k hk => .inl hk
            · rcases hk with z | z | ⟨t, _, z⟩
              · exact hlow _ (.inl z)
              · exact hlow _ (.inr (.inl z))
              · exact hlow _ (.inr (.inr ⟨t, fun y => y, z⟩))
            · obtain ⟨_, m2, m3, m4⟩ := hm k z
              rcases hk with y | y | ⟨t, yt, y⟩
              · exact m2 y
              · exact m3 y
              · exact m4 t yt y
          obtain ⟨u1, u2⟩ := DiskM.used_put (l := M.l) ⟨s.data.toList, b0 ++ b, sy⟩ hd.rises
          have u1' : DiskM.used (DiskM.put M.l ⟨s.data.toList, b0 ++ b, sy⟩) + DiskM.len M.l s.data.toList = DiskM.used M.l + (b0 ++ b).length := u1
          rw [List.length_append] at u1'
          have hpl := DiskM.put_len M.l ⟨s.data.toList, b0 ++ b, sy⟩
          refine dput hd3 s hs64 (fun t z => z) A2 _ c2 (b0 ++ b) sy (List.length_append) hr2 (fun k hk => ?_) (by omega) (by omega) (by omega)
          have hlt := (row_new hr2 hk).2
          rcases hw k hk with z | z
          · obtain ⟨m1, m2, m3, m4⟩ := hm k z
            exact ⟨.inl m1, m2, m3, m4⟩
          · exact ⟨.inr ⟨z, hlt⟩, fun y => by have := hlow k (.inl y); omega, fun y => by have := hlow k (.inr (.inl y)); omega, fun t _ y => by have := hlow k (.inr (.inr ⟨t, fun q => q, y⟩)); omega⟩
        have hFr : ∀ {W3 w' : World} {D' : DataW Value} {mo' : Option Nat}, Only (fun k => (Value.slice A b0.length c).ownBlock = some k) w W3 → Dk w' (New (New F w W3) W3 w') (fun _ => False) g mo' D' { M with l := DiskM.put M.l ⟨s.data.toList, b0 ++ b, sy⟩ } → Only (New F w W3) W3 w' →
            (∃ F', DiskR w' F' ⟨g, 0, none⟩ { M with l := DiskM.put M.l ⟨s.data.toList, b0 ++ b, sy⟩ } ∧ ∀ k, F' k → F k ∨ w.heap.size ≤ k) ∧ Only F w w' := fun {W3 w' D' mo'} ho h4 ho2 => by
          refine ⟨⟨_, ⟨g, mo', D', rfl, h4⟩, fun k hk => ?_⟩, (ho.wider fun k hk => (hm k hk).1).trans ho2 fun k hk => hk.imp id And.left⟩
          rcases hk with (x | x) | x
          · exact .inl x
          · exact .inr x.1
          · exact .inr (Nat.le_trans ho.size x.1)
        have hlk : ∀ W : World, Below w.heap.size w W → (Instr.lookup 36 (.map mo) (.string s) false).run Try.prog W = .ok (.agg #[.slice A b0.length c, .int .i64 (sy : Int)]) W := fun W hW => by
          rw [look_file (HD.out.below hW).bare.map s (Nat.le_trans hs64 (by decide)), hf]
        have hown : ∀ k, (Value.slice A b0.length c).ownBlock = some k → k < w.heap.size := fun k hk => (row_new hrow hk).2
        have HRW : Hid (∀ {W : World}, Below w.heap.size w W → _) := @hROW
        have HPU : Hid (∀ {W3 : World} {A2 : Option Addr} {c2 : Nat}, _) := @hpu
        have HFR : Hid (∀ {W3 w' : World} {D' : DataW Value} {mo' : Option Nat}, _) := @hFr
        have HOWN := Lib.hid hown
        have c0 := hbare.c0
        obtain ⟨n0, hn0⟩ : ∃ n0, b0.length = n0 := ⟨_, rfl⟩
        have b00 : n0 ≤ 16777216 := by omega
        have HL := Lib.hid hl
        have hnf : (u : Int) + (n : Int) ≤ (r : Int) := by omega
        have hlk2 := hlk w.drew ((Below.refl _ w).drew)
        rw [hn0] at hlk2 HRW HPU HFR HOWN
        rw [hln]
        rw [hr] at c1
        rw [hu] at c2
        have HLN := Lib.hid hln
        have HN0 := Lib.hid hn0
        clear hln hn0
        clear hsmall hroom hdn hn hbare hk hu hr hfull heq hl0 hcase hf hrow hsy hm hs64 hln0 hROW hpu hFr hlk hown hl
        go_enter Try.func8, Try.ntmps8
        go_wp2_with fail
        go_at_call 31
        refine (refusal_any _ g mo D _ _ false HBR.out).mono ?_
        rintro e w1 ⟨rfl, rfl⟩
        go_wp2_with fail
        go_at_call 32
        refine (hnm _).mono ?_
        rintro e w2 ⟨rfl, rfl⟩
        clear hnm
        go_wp2_with fail
        go_region
        have bz : Below w.heap.size w ((w.alloc (.cells #[.slice A n0 c, .int .i64 (sy : Int)] 57)).drew) := ((Below.refl _ w).alloc (Nat.le_refl _) _).drew
        have HROW1 := Lib.hid (HRW.out bz)
        go_wp2_with (at_builtin; refine wpList_append_bytes rfl (.tmp 36) (.tmp 37) rfl 0 _ n0 _ rfl HROW1.out w.heap.size B cb b (by rw [HLN.out]; rfl) HBn.out (HBs.out.below bz) (by have := HL.out; omega) (by have := HL.out; omega) (Nat.zero_le _) ?_; intro v2 w2 own2 gr2 wh2; obtain ⟨A2, c2', rfl, -, -⟩ := own_slice own2
                     have hk2 : w2.heap[w.heap.size]? = some (.cells #[.slice A n0 c, .int .i64 (sy : Int)] 57 (0, 0)) := (gr2.block w.heap.size (by simp) (fun z => absurd (HOWN.out _ z.symm) (Nat.lt_irrefl _))).trans (heap_alloc_new _ _)
                     obtain ⟨k0, k1⟩ := cell_of2 hk2
                     have kf : w2.frozen? ⟨w.heap.size, 0, none⟩ = false := by simp [World.frozen?, hk2]
                     have OWN2 := Lib.hid own2; have GR2 := Lib.hid gr2; have WH2 := Lib.hid wh2
                     clear own2 gr2 wh2 hk2)
        go_at_call 33
        have hO : Only (fun k => (Value.slice A n0 c).ownBlock = some k) w (w2.setCell ⟨w.heap.size, 0, none⟩ (.slice A2 (n0 + b.length) c2')) :=
          ((Only.of_below bz).grownO GR2.out fun b hb => .inl hb).setCell (.inr (Nat.le_refl _)) _
        have hwh : ∀ k, (Value.slice A2 (n0 + b.length) c2').ownBlock = some k → (Value.slice A n0 c).ownBlock = some k ∨ k = w.heap.size + 1 := fun k hk => by
          rcases WH2.out with z | z
          · exact .inl (z ▸ hk)
          · right
            rw [z] at hk
            simpa using hk.symm
        have hr3 : (w2.setCell ⟨w.heap.size, 0, none⟩ (.slice A2 (n0 + b.length) c2')).ownsRow 0 5 1 (.slice A2 (n0 + b.length) c2') (n0 + b.length) ((b0 ++ b).map bv) := by
          rw [List.map_append]
          refine row_same OWN2.out fun k hk => Below.heap_setCell _ _ _ _ fun e => ?_
          rcases hwh k hk with z | z
          · have := HOWN.out k z; simp at e; omega
          · simp at e; omega
        refine (HPU.out hO hr3 fun k hk => (hwh k hk).imp id fun z => by omega).mono ?_
        rintro e w4 ⟨rfl, ⟨mo', D', h4⟩, ho4⟩
        have HEND := Lib.hid (HFR.out hO h4 ho4)
        clear hO hwh hr3 h4 ho4
        go_wp2_with fail
        go_ret
        exact ⟨rfl, HEND.out⟩
  · rw [hdn] at hbare
    rw [append_no (.inl ⟨hdn, rfl⟩)]
    have HBR := Lib.hid hbare
    obtain ⟨n, hln⟩ : ∃ n, b.length = n := ⟨_, rfl⟩
    rw [hln]
    clear hsmall hroom hdn hbare hl hk hln hnm
    go_enter Try.func8, Try.ntmps8
    go_wp2_with fail
    go_at_call 31
    refine (refusal_any _ g mo D _ _ true HBR.out).mono ?_
    rintro e w1 ⟨rfl, rfl⟩
    go_wp2_with fail
    go_ret
    exact ⟨rfl, does_end (fun k hk => .inl hk) HD.out (Only.refl _ _) (Below.refl _ _)⟩
end Go.Proofs.Ythclaolmmlgalaa
