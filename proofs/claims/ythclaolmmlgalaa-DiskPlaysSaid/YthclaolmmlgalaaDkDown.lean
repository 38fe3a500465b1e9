/- Package disk's Crash on the relation. -/
import Derived.Test.YthclaolmmlgalaaDkNames
namespace Go.Proofs.Ythclaolmmlgalaa
open Go.RowKit Go.Maps
set_option linter.unusedVariables false

theorem Dk.tightF {w : World} {F : Nat → Prop} {E : List UInt8 → Prop} {g : Nat} {mo : Option Nat} {D : DataW Value} {M : DiskM.D} (h : Dk w F E g mo D M) : Dk w (fun k => F k ∧ k < w.heap.size) E g mo D M :=
  { h with
    Fg := ⟨h.Fg, h.bare.lt⟩
    Fm := fun b e => ⟨h.Fm b e, by have := h.bare.map; rw [e] at this; exact this.lt⟩
    mine := fun s b e => ⟨⟨(h.mine s b e).1, (h.mine s b e).2.2.2⟩, (h.mine s b e).2⟩ }
/-- The files when j of them have been crashed. -/
def half (keep : Int) (gb : Bool) (l : List DiskM.F) (j : Nat) : List DiskM.F := (l.take j).map (DiskM.crashed keep gb) ++ l.drop j
theorem half_at (keep : Int) (gb : Bool) (l : List DiskM.F) (j : Nat) (hj : j < l.length) : half keep gb l j = (l.take j).map (DiskM.crashed keep gb) ++ l[j] :: l.drop (j + 1) := by
  unfold half
  rw [List.drop_eq_getElem_cons hj]
theorem half_step (keep : Int) (gb : Bool) (l : List DiskM.F) (j : Nat) (hj : j < l.length) : half keep gb l (j + 1) = (l.take j).map (DiskM.crashed keep gb) ++ DiskM.crashed keep gb l[j] :: l.drop (j + 1) := by
  unfold half
  rw [List.take_add_one, List.getElem?_eq_getElem hj, Option.toList_some, List.map_append, List.append_assoc]
  rfl
theorem half_end (keep : Int) (gb : Bool) (l : List DiskM.F) (j : Nat) (hj : l.length ≤ j) : half keep gb l j = l.map (DiskM.crashed keep gb) := by
  unfold half
  rw [List.take_of_length_le hj, List.drop_of_length_le hj, List.append_nil]
/-- What holds at the head of the loop, j files crashed. -/
def CAt (w1 wr : World) (F0 : Nat → Prop) (g : Nat) (M : DiskM.D) (keep : Int) (gb : Bool) (j : Nat) : Prop :=
  ∃ F' mo' D', Dk wr F' NoE g mo' D' ⟨half keep gb M.l j, M.max, false⟩ ∧ (∀ k, F' k → F0 k ∨ w1.heap.size ≤ k) ∧ Only F0 w1 wr
/-- One file's round, in contracts: the look-up, crashed, put. -/
theorem crash_round {w1 wr : World} {F0 : Nat → Prop} {g : Nat} {M : DiskM.D} {keep : Int} {gb : Bool} (wk : (Lit.int .i64 keep).wf = true) {j : Nat} (hj : j < M.l.length) (h : CAt w1 wr F0 g M keep gb j) (s : ByteArray) (hs : s.data.toList = M.l[j].name) :
    ∃ mo A n c sy nn, wr.cell? ⟨g, 0, none⟩ = some (.map mo) ∧ (Instr.lookup 36 (.map mo) (.string s) false).run Try.prog wr = .ok (.agg #[.slice A n c, .int .i64 (sy : Nat)]) wr ∧
      Calls Try.prog 35 #[.agg #[.slice A n c, .int .i64 (sy : Nat)], .int .i64 keep, .bool gb] wr fun e w2 => ∃ v, e = .returned (.agg #[v, .int .i64 (nn : Nat)]) ∧
        Calls Try.prog 33 #[.pointer (some ⟨g, 0, none⟩), .string s, .agg #[v, .int .i64 (nn : Nat)]] w2 fun e w3 => e = .returned (.tuple #[]) ∧ CAt w1 w3 F0 g M keep gb (j + 1) := by
  obtain ⟨F', mo, D, hd, hF, hO⟩ := h
  have hat := half_at keep gb M.l j hj
  have hx : DiskM.find (half keep gb M.l j) s.data.toList = some M.l[j] := by
    rw [hs]
    exact DiskM.find_mem_rises hd.rises (by show _ ∈ half keep gb M.l j; rw [hat]; exact List.mem_append_right _ List.mem_cons_self)
  obtain ⟨A, c, hf, hrow⟩ := hd.files _ _ hx
  have hrow := hrow fun z => z
  obtain ⟨hname, hsync⟩ := hd.ok _ (DiskM.find_mem hx)
  obtain ⟨nn, hnn⟩ : ∃ nn : Nat, M.l[j].sync + (max 0 (min keep ((M.l[j].b.length : Int) - M.l[j].sync))).toNat = nn := ⟨_, rfl⟩
  have hs64 : s.size ≤ 64 := by rw [← hs] at hname; simpa using hname
  obtain ⟨A', c', eA, -, hA, hbs⟩ := Bs.of_own hrow
  injection eA with z1 z2 z3
  subst z1 z3
  obtain ⟨Aq, cq, eq, -, hcq⟩ := own_slice hrow
  injection eq with z4 z5 z6
  have hll := left_length keep gb M.l[j].b M.l[j].sync nn hsync hnn
  obtain ⟨q1, q2, q3, q4⟩ := hd.fits hx (left keep gb M.l[j].b M.l[j].sync) nn (by omega)
  refine ⟨mo, A, M.l[j].b.length, c, M.l[j].sync, nn, hd.bare.c0, by rw [look_file hd.bare.map s (Nat.le_trans hs64 (by decide)), hf], ?_⟩
  refine (crashed_any wr A M.l[j].b c M.l[j].sync _ nn keep gb wk hA (by omega) hbs (by omega) hsync rfl hnn).mono ?_
  rintro e w2 ⟨v, he, ho, hb⟩
  refine ⟨v, he, ?_⟩
  obtain ⟨A1, c1, rfl, -, -⟩ := own_slice ho
  have hd2 : Dk w2 (New F' wr w2) NoE g mo D ⟨half keep gb M.l j, M.max, false⟩ := (hd.below hb).wide fun k hk => .inl hk
  have hlow := fun b hb => hd.low (b := b) hb
  refine (dput hd2 s hs64 (fun t z => z.elim) A1 nn c1 (left keep gb M.l[j].b M.l[j].sync) nn hll (row_base ho (Nat.zero_le _)) (fun k hk => ?_) (Nat.le_refl _) q1 q2).mono ?_
  · have hnew := row_new ho hk
    exact ⟨.inr hnew, fun e => by have := hlow _ (.inl e); omega, fun e => by have := hlow _ (.inr (.inl e)); omega, fun t _ e => by have := hlow _ (.inr (.inr ⟨t, fun z => z, e⟩)); omega⟩
  · rintro e w3 ⟨he3, ⟨mo', D', h3⟩, ho3⟩
    have hG : ∀ k, New F' wr w2 k → F0 k ∨ w1.heap.size ≤ k := fun k hk => by
      rcases hk with x | ⟨x, _⟩
      · exact hF k x
      · exact .inr (Nat.le_trans hO.size x)
    refine ⟨he3, New (New F' wr w2) w2 w3, mo', D', ?_, fun k hk => ?_, hO.trans ((Only.of_below (F := New F' wr w2) hb).trans ho3 fun k hk => .inl hk) hG⟩
    · have hp : DiskM.put (half keep gb M.l j) ⟨s.data.toList, left keep gb M.l[j].b M.l[j].sync, nn⟩ = half keep gb M.l (j + 1) := by
        have hr := hd.rises
        have hr' : DiskM.Rises (half keep gb M.l j) := hr
        rw [hat] at hr' ⊢
        rw [DiskM.put_split _ _ _ _ hr' hs, half_step keep gb M.l j hj]
        congr 2
        subst hnn
        rw [hs]
        rfl
      rw [← hp]
      exact h3
    · rcases hk with x | ⟨x, _⟩
      · exact hG k x
      · exact .inr (Nat.le_trans (Nat.le_trans hO.size hb.size) x)
set_option maxRecDepth 20000 in
set_option maxHeartbeats 4000000 in
theorem dk_crash {w : World} {F : Nat → Prop} {p : Addr} {M : DiskM.D} (h : DiskR w F p M) (keep : Int) (gb : Bool) (wk : (Lit.int .i64 keep).wf = true) :
    Does DiskR 10 #[.pointer (some p), .int .i64 keep, .bool gb] (.tuple #[]) w F p (DiskM.crash M keep gb) := by
  obtain ⟨g, mo, D, rfl, hd⟩ := h
  have HD := Lib.hid hd
  have hbare := hd.bare
  clear hd
  unfold Does DiskM.crash
  cases hdn : M.down
  · rw [if_neg (by decide)]
    rw [hdn] at hbare
    have HBR := Lib.hid hbare
    have HD0 := Lib.hid HD.out.tightF
    obtain ⟨N, hN⟩ : ∃ N, (DiskM.names M).length = N := ⟨_, rfl⟩
    have hNl : M.l.length = N := by rw [← hN, DiskM.names, List.length_map]
    have hfew := HD.out.few
    have bN : (N : Int) ≤ 1000 := by omega
    have HN := Lib.hid hNl
    have HNN := Lib.hid hN
    have hdn' : M = ⟨M.l, M.max, false⟩ := by rw [← hdn]
    have HM := Lib.hid hdn'
    have HNM := Lib.hid (dnames HD.out)
    clear hbare hdn hN hNl hfew hdn'
    go_enter Try.func10, Try.ntmps10
    go_wp2_with fail
    go_at_call 31
    refine (refusal_any _ g mo D _ _ false HBR.out).mono ?_
    rintro e w1 ⟨rfl, rfl⟩
    go_wp2_with fail
    go_at_call 25
    refine HNM.out.mono ?_
    rintro e w1 ⟨⟨v, rfl, ⟨A, c, rfl, hA, hc, htx⟩, hnew⟩, hb1⟩
    rw [HNN.out] at hc
    rw [HNN.out]
    have HTX := Lib.hid htx
    have HNEW := Lib.hid hnew
    have HB1 := Lib.hid hb1
    have hcN : (N : Int) ≤ (c : Int) := by omega
    have st : CAt w1 w1 (fun k => F k ∧ k < w.heap.size) g M keep gb 0 := by
      refine ⟨_, mo, D, ?_, fun k hk => .inl hk, Only.refl _ _⟩
      have := HD0.out.below hb1
      rw [HM.out] at this
      exact this
    have ST := Lib.hid st
    clear htx hnew hb1 hA hc st HNM
    go_wp2_with fail
    go_loopw [14] (fun i wr => ∃ j : Nat, j ≤ N ∧ i = .int .i64 j ∧ CAt w1 wr (fun k => F k ∧ k < w.heap.size) g M keep gb j) (fun i _ => N - (intOf i).toNat)
    case atStart => exact ⟨0, Nat.zero_le _, rfl, ST.out⟩
    case round =>
      obtain ⟨j, hj, rfl, hat⟩ := hrel
      have HAT := Lib.hid hat
      have hO : Only (fun k => F k ∧ k < w.heap.size) w1 wr := by obtain ⟨_, _, _, _, _, h⟩ := hat; exact h
      have j0 : (0 : Int) ≤ (j : Int) := by omega
      by_cases hlt : j < N
      · have j1 : (j : Int) < (N : Int) := by omega
        have hjl : j < M.l.length := by rw [HN.out]; exact hlt
        obtain ⟨q, rfl, hq, hcell⟩ := HTX.out j (by rw [HNN.out]; exact hlt)
        have hge := HNEW.out q _ _ rfl
        have hblk : wr.heap[q.block]? = w1.heap[q.block]? := hO.block q.block hq fun z => by have := z.2; omega
        have hcell2 : wr.cell? (q.add j) = w1.cell? (q.add j) := by
          unfold World.cell?
          rw [add_block, hblk]
        obtain ⟨s, hs⟩ : ∃ s : ByteArray, s = ⟨((DiskM.names M)[j]'(by rw [HNN.out]; exact hlt)).toArray⟩ := ⟨_, rfl⟩
        have hsn : s.data.toList = M.l[j].name := by rw [hs]; simp [DiskM.names]
        rw [← hcell2, ← hs] at hcell
        obtain ⟨mo', A', n', c', sy, nn, c0, hlk, hcr⟩ := crash_round wk hjl hat s hsn
        have HCR := Lib.hid hcr
        clear hat hO hblk hcell2 hs hsn hcr hge hq
        go_wp2_with fail
        go_at_call 35
        refine HCR.out.mono ?_
        rintro e w2 ⟨v, rfl, hput⟩
        have HPUT := Lib.hid hput
        clear hput
        go_wp2_with fail
        go_at_call 33
        refine HPUT.out.mono ?_
        rintro e w3 ⟨rfl, h3⟩
        have H3 := Lib.hid h3
        clear h3
        go_wp2_with fail
        go_roundw
        case rel => exact ⟨j + 1, hlt, by go_num, H3.out⟩
        case measure => simp [intOf]; omega
      · have j1 : (N : Int) ≤ (j : Int) := by omega
        obtain ⟨F', mo', D', h3, hF, hO3⟩ := hat
        have hb3 := h3.bare
        have f3 := hb3.free 3
        have c3 := hb3.c3
        rw [half_end keep gb M.l j (by rw [HN.out]; omega)] at h3
        have HC := Lib.hid (h3.cell 3 (.bool true) M.max true h3.room (h3.bare.setDown true))
        have H3 := Lib.hid h3
        have HO3 := Lib.hid hO3
        have HF := Lib.hid hF
        clear h3 hb3 hF hO3 hO
        go_wp2_with fail
        go_end0
        refine ⟨rfl, ⟨F', ⟨g, mo', D', rfl, HC.out⟩, fun k hk => ?_⟩, ?_⟩
        · rcases HF.out k hk with x | x
          · exact .inl x.1
          · exact .inr (Nat.le_trans HB1.out.size x)
        · refine Only.trans (Only.of_below (F := F) HB1.out) ((HO3.out.wider (G := F) fun k hk => hk.1).setCell (p := ⟨g, 3, none⟩) ?_ _) fun k hk => .inl hk
          rcases HF.out g H3.out.Fg with x | x
          · exact .inl x.1
          · exact .inr x
  · rw [if_pos rfl]
    rw [hdn] at hbare
    have HBR := Lib.hid hbare
    clear hbare hdn
    go_enter Try.func10, Try.ntmps10
    go_wp2_with fail
    go_at_call 31
    refine (refusal_any _ g mo D _ _ true HBR.out).mono ?_
    rintro e w1 ⟨rfl, rfl⟩
    go_wp2_with fail
    exact ⟨rfl, _, results_none rfl _ _ _, rfl, does_end (fun k hk => .inl hk) HD.out (Only.refl _ _) (Below.refl _ _)⟩
end Go.Proofs.Ythclaolmmlgalaa
