/- Package record's Scan keeps what the laws ask of it: the bodies of the frames at the beginning, and how many bytes they have. -/
import Derived.Test.YtmikdnjjnadimaaRecFr
import Derived.Test.YtmikdnjjnadimaaRefScan
import Derived.Test.YtmikdnjjnadimaaCrcOkU
import Derived.ScopeJumps
import Derived.WalkMore
namespace Go.Proofs.Ytmikdnjjnadimaa
open Go.RowKit
set_option linter.unusedVariables false
theorem infoSl : (Try.prog.info? 23).map (fun i => (i.zero, i.size, i.bytes)) = some (some (.slice none 0 0), 1, 24) := by kernel_rfl
theorem wpList_append_sl {w : World} {ops : Array Oper} {rest : List Oper} {o : Oper} {a : Act} {Q : Exit → Act → World → Prop} (hgd : o.guard = none) (s x : Operand)
    (ho : o.op = .call { callee := .builtin .append, args := #[s, x], argTypes := #[33, 33] })
    (w0 : World) (v : Value) (n : Nat) (xs : List Value) (hs : a.eval s = v) (hown : w.ownsRow w0.heap.size 23 1 v n xs) (hb : Below w0.heap.size w0 w)
    (p : Addr) (c : Nat) (y : Value) (hy : y.oneCell' = true) (hx : a.eval x = .slice (some p) 1 c) (hc : w.cell? p = some y) (h63 : n ≤ 1099511627776)
    (h : ∀ v' w', w'.ownsRow w0.heap.size 23 1 v' (n + 1) (xs ++ [y]) → Below w0.heap.size w0 w' → w.grownBy w' v.ownBlock → (v'.ownBlock = v.ownBlock ∨ v'.ownBlock = some w.heap.size) → wpList Try.prog ops Q rest (a.put o.dst v') w') :
    wpList Try.prog ops Q (o :: rest) a w := by
  obtain ⟨i, hi, hz, h1, h2⟩ := info_parts infoSl
  refine wpList_append_own_at w hgd s x 33 ho w0.heap.size 23 i _ 1 24 Try.underlying33 hi hz h1 h2 rfl (by decide) v n xs hs hown p 1 c [y] hx rfl (fun j u hu => ?_) (fun u hu => by simp at hu; subst hu; exact hy) (by unfold maxLen; omega) (by omega) hb.size fun v' w' g1 g2 _ g4 => h v' w' g1 (hb.grown g2 hb.size fun j hj => (hown.lt j hj).1) g2 g4
  obtain ⟨hj, rfl⟩ := List.getElem?_eq_some_iff.1 hu
  have : j = 0 := by simpa using hj
  subst this
  rw [show p.add 0 = p by simp [Addr.add]]
  exact hc
theorem ok_num (Y : List UInt8) (h8 : 8 ≤ Y.length) (hn : Rec.num Y ≤ 1048576) (hl : 8 + Rec.num Y ≤ Y.length) : Rec.ok Y = decide (Rec.num (Y.drop 4) = Rec.sum (Y.take 4) ((Y.drop 8).take (Rec.num Y))) := by
  obtain ⟨a0, a1, a2, a3, a4, a5, a6, a7, r, rfl⟩ : ∃ a0 a1 a2 a3 a4 a5 a6 a7 r, Y = a0 :: a1 :: a2 :: a3 :: a4 :: a5 :: a6 :: a7 :: r := by
    match Y, h8 with
    | a0 :: a1 :: a2 :: a3 :: a4 :: a5 :: a6 :: a7 :: r, _ => exact ⟨a0, a1, a2, a3, a4, a5, a6, a7, r, rfl⟩
  have hd : decide (8 ≤ (a0 :: a1 :: a2 :: a3 :: a4 :: a5 :: a6 :: a7 :: r).length ∧ Rec.num (a0 :: a1 :: a2 :: a3 :: a4 :: a5 :: a6 :: a7 :: r) ≤ 1048576 ∧ 8 + Rec.num (a0 :: a1 :: a2 :: a3 :: a4 :: a5 :: a6 :: a7 :: r) ≤ (a0 :: a1 :: a2 :: a3 :: a4 :: a5 :: a6 :: a7 :: r).length) = true := decide_eq_true ⟨h8, hn, hl⟩
  rw [Rec.ok, hd, Bool.true_and]
  show ([a4, a5, a6, a7] == _) = decide (Rec.num (a4 :: a5 :: a6 :: a7 :: r) = _)
  rw [← Rec.be4_of_num a4 a5 a6 a7 r]
  generalize hs : Rec.sum _ _ = s
  have hs4 : s < 4294967296 := by rw [← hs]; exact Rec.sum_lt _ _
  have hb : Rec.num (a4 :: a5 :: a6 :: a7 :: r) < 4294967296 := by
    have := a4.toNat_lt; have := a5.toNat_lt; have := a6.toNat_lt; have := a7.toNat_lt
    simp only [Rec.num]; omega
  rw [Bool.eq_iff_iff, beq_iff_eq, decide_eq_true_eq]
  exact ⟨fun h => Rec.be4_inj hb hs4 h, fun h => by rw [h]⟩
/-- The block of u is there, and is not that of v. -/
def Apart (w : World) (v u : Value) : Prop := ∀ k, u.ownBlock = some k → v.ownBlock ≠ some k ∧ k < w.heap.size
/-- A row v of slices that read as the lists ls, each in a block of its own. -/
def Reads (w : World) (v : Value) (us : List Value) (ls : List (List UInt8)) : Prop := us.length = ls.length ∧ ∀ i (h : i < ls.length) (h' : i < us.length), IsBytes w us[i] ls[i] ∧ Apart w v us[i]
theorem Apart.later {w w' : World} {v u : Value} (h : Apart w v u) (hb : w.heap.size ≤ w'.heap.size) : Apart w' v u := fun k hk => ⟨(h k hk).1, Nat.lt_of_lt_of_le (h k hk).2 hb⟩
theorem Reads.later {w w' : World} {v : Value} {us : List Value} {ls : List (List UInt8)} (h : Reads w v us ls) (hb : Below w.heap.size w w') : Reads w' v us ls := ⟨h.1, fun i k k' => ⟨(h.2 i k k').1.later hb, (h.2 i k k').2.later hb.size⟩⟩
theorem one_onto {w w' : World} {v v' u : Value} {l : List UInt8} (hu : IsBytes w u l) (ha : Apart w v u) (g : w.grownBy w' v.ownBlock) (g4 : v'.ownBlock = v.ownBlock ∨ v'.ownBlock = some w.heap.size) : IsBytes w' u l ∧ Apart w' v' u := by
  obtain ⟨A, c, rfl, hA, hc, hr⟩ := hu
  refine ⟨⟨A, c, rfl, hA, hc, fun i hi => ?_⟩, fun k hk => ⟨?_, Nat.lt_of_lt_of_le (ha k hk).2 g.size⟩⟩
  · obtain ⟨p, rfl, hp, hcell⟩ := hr i hi
    refine ⟨p, rfl, Nat.lt_of_lt_of_le hp g.size, g.cell hcell ?_⟩
    rw [add_block]
    exact fun e => (ha p.block rfl).1 e.symm
  · have := ha k hk
    rcases g4 with e | e
    · rw [e]; exact this.1
    · rw [e]
      intro x
      injection x with x
      omega
theorem Reads.onto {w w' : World} {v v' u : Value} {us : List Value} {ls : List (List UInt8)} {l : List UInt8} (h : Reads w v us ls) (hu : IsBytes w u l) (ha : Apart w v u) (g : w.grownBy w' v.ownBlock) (g4 : v'.ownBlock = v.ownBlock ∨ v'.ownBlock = some w.heap.size) : Reads w' v' (us ++ [u]) (ls ++ [l]) := by
  refine ⟨by rw [List.length_append, List.length_append, h.1]; rfl, fun i k k' => ?_⟩
  by_cases e : i < ls.length
  · have e' : i < us.length := by rw [h.1]; exact e
    rw [List.getElem_append_left e, List.getElem_append_left e']
    exact one_onto (h.2 i e e').1 (h.2 i e e').2 g g4
  · have i1 : i = ls.length := by rw [List.length_append, List.length_singleton] at k; omega
    subst i1
    have j1 : (us ++ [u])[ls.length]'k' = u := by
      rw [List.getElem_append_right (by rw [h.1]; exact Nat.le_refl _)]
      simp
    have j2 : (ls ++ [l])[ls.length]'k = l := by
      rw [List.getElem_append_right (Nat.le_refl _)]
      simp
    rw [j1, j2]
    exact one_onto hu ha g g4
def sliceLen : Value → Nat
  | .slice _ k _ => k
  | _ => 0
def RJ (X : List UInt8) (A : Option Addr) (n c : Nat) (w : World) (a' : Act) (w' : World) : Prop :=
  ∃ (at_ : Nat) (ls : List (List UInt8)) (us : List Value) (v : Value) (A' : Option Addr) (d c' : Nat) (u1 u2 u3 u6 u7 u8 u9 u10 u11 u12 u13 u14 u15 u16 u17 u18 u19 u20 u21 u22 u23 u24 u25 u26 u27 u28 u29 u30 u31 u32 u33 u34 u35 u36 u37 u38 u39 u40 u41 u42 u43 u44 u45 u46 u47 u48 u49 u50 u51 u52 : Value), a' = { tmps := #[.slice A n c, u1, u2, u3, v, .slice A' d c', u6, u7, u8, u9, u10, u11, u12, u13, u14, u15, u16, u17, u18, u19, u20, u21, u22, u23, u24, u25, u26, u27, u28, u29, u30, u31, u32, u33, u34, u35, u36, u37, u38, u39, u40, u41, u42, u43, u44, u45, u46, u47, u48, u49, u50, u51, u52], defers := [] } ∧
    Rec.scan X = (ls, at_) ∧ d + at_ = n ∧ w'.ownsRow w.heap.size 23 1 v ls.length us ∧ Reads w' v us ls ∧ Below w.heap.size w w'
def RInv (X : List UInt8) (n : Nat) (w : World) (v r : Value) (wr : World) : Prop :=
  ∃ (at_ : Nat) (ls : List (List UInt8)) (us : List Value) (A' : Option Addr) (d c' : Nat), RAt X at_ ls ∧ d + at_ = n ∧ r = .slice A' d c' ∧ d ≤ c' ∧ Bs w w.heap.size A' (X.drop at_) ∧
    wr.ownsRow w.heap.size 23 1 v ls.length us ∧ Reads wr v us ls ∧ Below w.heap.size w wr
theorem RInv.jump {X : List UInt8} {A : Option Addr} {n c : Nat} {w : World} {at_ : Nat} {ls : List (List UInt8)} (h : RAt X at_ ls) (hno : Rec.ok (X.drop at_) = false) : Rec.scan X = (ls, at_) := h.done hno
theorem ret_two (v : Value) (a b : Int) (h : a = b) : Ending.returned (.tuple #[v, .int .i64 a]) = .returned (.tuple #[v, .int .i64 b]) := by rw [h]
theorem IsLists.of {w w0 : World} {v : Value} {ls : List (List UInt8)} {us : List Value} (h : w.ownsRow w0.heap.size 23 1 v ls.length us) (hr : Reads w v us ls) : IsLists w v ls := by
  obtain ⟨A, c, rfl, hl, hA, hc, hrow⟩ := own_row h
  refine ⟨A, c, rfl, hA, hc, fun i hi => ?_⟩
  have hi' : i < us.length := by rw [hr.1]; exact hi
  obtain ⟨p, e, hp, hcell⟩ := hrow i hi'
  exact ⟨p, us[i], e, hp, hcell, (hr.2 i hi hi').1⟩
set_option maxRecDepth 20000 in
set_option maxHeartbeats 4000000 in
theorem recscan (A : Option Addr) (X : List UInt8) (c n : Nat) (w : World) (hn : X.length = n) (hl : n ≤ 2097152) (hA : A = none → c = 0) (hc : n ≤ c) (h : Bs w w.heap.size A X) (UP : UpOk) (SM : SumOk) :
    Calls Try.prog 13 #[.slice A n c] w fun e w' => (∃ v, e = .returned (.tuple #[v, .int .i64 ((Rec.scan X).2 : Int)]) ∧ IsLists w' v (Rec.scan X).1) ∧ Below w.heap.size w w' := by
  have UU := Lib.hid UP
  have SS := Lib.hid SM
  have HB := Lib.hid h
  have HN := Lib.hid hn
  have HC := Lib.hid hc
  have i0 : (0 : Int) ≤ (n : Int) := by omega
  have i1 : (n : Int) ≤ 2097152 := by omega
  clear UP SM h hn hc
  go_enter Try.func13, Try.ntmps13
  go_wp2_with fail
  refine wp_scope_jumps 0 (RJ X A n c w) (fun _ _ => 0) rfl ?_ ?_
  · go_wp2_with fail
    go_loopw [4, 5] (fun v r wr => RInv X n w v r wr) (fun _ r _ => sliceLen r)
    case atStart => exact ⟨0, [], [], A, n, c, ⟨Nat.zero_le _, Nat.le_refl _, by simp⟩, rfl, rfl, HC.out, HB.out, World.ownsRow_nil _ _ _ _, ⟨rfl, fun i h => absurd h (by simp)⟩, Below.refl _ _⟩
    case round =>
      obtain ⟨at_, ls, us, A', d, c', hr, hd, rfl, hdc, hbs, hown, hrd, hbw⟩ := hrel
      have HR := Lib.hid hr
      have OW := Lib.hid hown
      have BW := Lib.hid hbw
      have RD := Lib.hid hrd
      have HD := Lib.hid hd
      have HDC := Lib.hid hdc
      obtain ⟨Y, hY⟩ : ∃ Y, X.drop at_ = Y := ⟨_, rfl⟩
      have hYl : Y.length = d := by rw [← hY, List.length_drop, HN.out]; omega
      rw [hY] at hbs
      have HBS := Lib.hid hbs
      have HY := Lib.hid hY
      have HYL := Lib.hid hYl
      have d0 : (0 : Int) ≤ (d : Int) := by omega
      have d1 : (d : Int) ≤ 2097152 := by omega
      clear hr hown hbw hrd hbs hd hdc
      by_cases h8 : 8 ≤ d
      · have i8 : (8 : Int) ≤ (d : Int) := by omega
        obtain ⟨y0, y1, y2, y3, y4, y5, y6, y7, r, hYr⟩ : ∃ y0 y1 y2 y3 y4 y5 y6 y7 r, Y = y0 :: y1 :: y2 :: y3 :: y4 :: y5 :: y6 :: y7 :: r := by
          have h8' : 8 ≤ Y.length := by omega
          clear hY hYl
          match Y, h8' with
          | y0 :: y1 :: y2 :: y3 :: y4 :: y5 :: y6 :: y7 :: r, _ => exact ⟨y0, y1, y2, y3, y4, y5, y6, y7, r, rfl⟩
        obtain ⟨p0, rfl, -, -⟩ := HBS.out 0 (by rw [hYl]; omega)
        obtain ⟨N, hN⟩ : ∃ N, Rec.num Y = N := ⟨_, rfl⟩
        have HNM := Lib.hid hN
        have HYR := Lib.hid hYr
        have N0 : (0 : Int) ≤ (N : Int) := by omega
        have B1 := Lib.hid (HBS.out.below BW.out)
        clear hY hYl hYr hN
        go_wp2_with fail
        go_at_call 19
        refine (recnum_any (some p0) d c' w.heap.size y0 y1 y2 y3 (y4 :: y5 :: y6 :: y7 :: r) wr (by rw [← HYR.out]; exact B1.out) (by omega)).mono ?_
        rintro e w1 ⟨rfl, hb1⟩
        rw [← HYR.out, HNM.out]
        have BW1 := Lib.hid (below_then BW.out hb1)
        have OW1 := Lib.hid (own_keep OW.out hb1)
        have RD1 := Lib.hid (RD.out.later hb1)
        clear B1 OW BW RD hb1
        by_cases hg : 1048576 < N
        · have g1 : 1048576 < (N : Int) := by omega
          have HJ := Lib.hid (HR.out.done (by rw [HY.out]; exact great_no (.inl (by rw [HNM.out]; exact hg))))
          go_wp2_with fail
          go_step3
          exact ⟨rfl, at_, ls, us, _, some p0, d, c', _, _, _, _, _, _, _, _, _, _, _, _, _, _, _, _, _, _, _, _, _, _, _, _, _, _, _, _, _, _, _, _, _, _, _, _, _, _, _, _, _, _, _, _, _, _, _, _, _, _, rfl, HJ.out, HD.out, OW1.out, RD1.out, BW1.out⟩
        · have g1 : (N : Int) ≤ 1048576 := by omega
          by_cases hf : 8 + N ≤ d
          · have l1 : (N : Int) ≤ (d : Int) - 8 := by omega
            obtain ⟨q8, hq8⟩ : ∃ q8, (if c' = 8 then some p0 else (some p0).map (·.add 8)) = some q8 := by
              by_cases e : c' = 8
              · exact ⟨p0, if_pos e⟩
              · exact ⟨p0.add 8, if_neg e⟩
            obtain ⟨d4, hd4⟩ : ∃ d4, d - 4 = d4 := ⟨_, rfl⟩
            obtain ⟨c8, hc8⟩ : ∃ c8, c' - 8 = c8 := ⟨_, rfl⟩
            obtain ⟨c4, hc4⟩ : ∃ c4, c' - 4 = c4 := ⟨_, rfl⟩
            obtain ⟨A4, hA4⟩ : ∃ A4, (if c' = 4 then some p0 else (some p0).map (·.add 4)) = A4 := ⟨_, rfl⟩
            have hdc := HDC.out
            have hs1 : ∀ W : World, (Instr.slice 23 (.slice (some p0) d c') (some (.int .i64 8)) (some (.int .i64 (8 + (N : Int)))) none).run Try.prog W = .ok (.slice (some q8) N c8) W := fun W => by
              have := rec_part W (some p0) d c' 8 (8 + N) (by omega) (by omega)
              rw [hq8, hc8, show 8 + N - 8 = N by omega, show (((8 + N : Nat)) : Int) = 8 + (N : Int) by omega] at this
              exact this
            have hs2 : ∀ W : World, (Instr.slice 23 (.slice (some p0) d c') (some (.int .i64 4)) none none).run Try.prog W = .ok (.slice A4 d4 c4) W := fun W => by
              have := rec_from W (some p0) d c' 4 (by omega) (by omega)
              rw [hA4, hd4, hc4] at this
              exact this
            have hs3 : ∀ W : World, (Instr.slice 23 (.slice (some p0) d c') none (some (.int .i64 4)) none).run Try.prog W = .ok (.slice (some p0) 4 c') W := fun W => rec_to W (some p0) d c' 4 (by omega)
            have b8 : Bs w w.heap.size (some q8) ((Y.drop 8).take N) := by
              rw [← hq8]
              exact ((HBS.out.past (k := 8) (by rw [HYL.out]; exact hdc)).front N)
            have b4 : Bs w w.heap.size A4 (y4 :: y5 :: y6 :: y7 :: r) := by
              rw [← hA4, show y4 :: y5 :: y6 :: y7 :: r = Y.drop 4 by rw [HYR.out]; rfl]
              exact HBS.out.past (k := 4) (by rw [HYL.out]; exact hdc)
            have b0 : Bs w w.heap.size (some p0) (Y.take 4) := HBS.out.front 4
            have e8 : ((Y.drop 8).take N).length = N := by rw [List.length_take, List.length_drop, HYL.out]; omega
            have e0 : (Y.take 4).length = 4 := by rw [List.length_take, HYL.out]; omega
            have B8 := Lib.hid b8
            have B4 := Lib.hid b4
            have B0 := Lib.hid b0
            have E8 := Lib.hid e8
            have E0 := Lib.hid e0
            have D4 : Hid (4 ≤ d4) := by show 4 ≤ d4; omega
            have NB : Hid (N ≤ 1048576) := by show N ≤ 1048576; omega
            obtain ⟨s, hsv⟩ : ∃ s, Rec.num (y4 :: y5 :: y6 :: y7 :: r) = s := ⟨_, rfl⟩
            obtain ⟨t, htv⟩ : ∃ t, Rec.sum (Y.take 4) ((Y.drop 8).take N) = t := ⟨_, rfl⟩
            have hok := ok_num Y (by rw [HYL.out]; omega) (by rw [HNM.out]; omega) (by rw [HNM.out, HYL.out]; omega)
            rw [HNM.out, htv, show Y.drop 4 = y4 :: y5 :: y6 :: y7 :: r by rw [HYR.out]; rfl, hsv] at hok
            have HOK := Lib.hid hok
            have HSV := Lib.hid hsv
            have HTV := Lib.hid htv
            have B8' := Lib.hid (B8.out.below BW1.out)
            have B4' := Lib.hid (B4.out.below BW1.out)
            have B0' := Lib.hid (B0.out.below BW1.out)
            have SZ : Hid (w.heap.size ≤ w1.heap.size) := BW1.out.size
            have H8 := Lib.hid hf
            have HQ8 := Lib.hid hq8
            clear hd4 hc8 hc4 hA4 hdc b8 b4 b0 e8 e0 hok hsv htv hq8 hf
            go_wp2_with fail
            go_region_held3 (fun w' => Below w1.heap.size w1 w') (first | exact (Below.refl _ _).drew | exact below_then (by assumption) (by assumption) | exact (below_then (by assumption) (by assumption)).drew | assumption) (first
              | (go_at_call 19; with_reducible refine (recnum_any A4 d4 c4 w.heap.size y4 y5 y6 y7 r _ (B4'.out.below (Below.mono (by assumption) SZ.out)) D4.out).mono ?_; rintro e w' ⟨rfl, hb⟩)
              | (go_at_call 16; with_reducible refine (checksum_any (some p0) (some q8) (Y.take 4) ((Y.drop 8).take N) 4 N c' c8 w.heap.size _ UU.out SS.out E0.out E8.out (by decide) NB.out (B0'.out.below (Below.mono (by assumption) SZ.out)) (B8'.out.below (Below.mono (by assumption) SZ.out)) (Nat.le_trans SZ.out (Below.size (by assumption)))).mono ?_; rintro e w' ⟨rfl, hb⟩))
            rename_i hbm
            rw [HSV.out, HTV.out]
            have hb2 : Below w1.heap.size w1 w' := hbm
            have BW2 := Lib.hid (below_then BW1.out hb2)
            have OW2 := Lib.hid (own_keep OW1.out hb2)
            have RD2 := Lib.hid (RD1.out.later hb2)
            clear B4 B0 B8' B4' B0' hs2 hs3 BW1 OW1 RD1 SZ
            clear hb2 hbm
            by_cases hst : s = t
            · subst hst
              have hyes : Rec.ok Y = true := by rw [HOK.out]; exact decide_eq_true rfl
              have hnx := HR.out.next (N := N) (by rw [HY.out]; exact hyes) (by rw [HY.out]; exact HNM.out) (by have := HD.out; have := HN.out; have := H8.out; omega)
              rw [HY.out] at hnx
              have HNX := Lib.hid hnx
              have hs4 : ∃ Ae ce, (∀ W : World, (Instr.slice 23 (.slice (some p0) d c') (some (.int .i64 (8 + (N : Int)))) none none).run Try.prog W = .ok (.slice Ae (d - (8 + N)) ce) W) ∧ d - (8 + N) ≤ ce ∧ Bs w w.heap.size Ae (X.drop (at_ + 8 + N)) := by
                have hdc := HDC.out
                have hf := H8.out
                refine ⟨if c' = 8 + N then some p0 else (some p0).map (·.add (8 + N)), c' - (8 + N), fun W => ?_, ?_, ?_⟩
                · have := rec_from W (some p0) d c' (8 + N) hf hdc
                  rw [show (((8 + N : Nat)) : Int) = 8 + (N : Int) by omega] at this
                  exact this
                · omega
                · have hx : X.drop (at_ + 8 + N) = Y.drop (8 + N) := by rw [← HY.out, List.drop_drop, Nat.add_assoc]
                  rw [hx]
                  exact HBS.out.past (k := 8 + N) (by rw [HYL.out]; exact hdc)
              obtain ⟨Ae, ce, hs4, hce, hbe⟩ := hs4
              obtain ⟨de, hde⟩ : ∃ de, d - (8 + N) = de := ⟨_, rfl⟩
              rw [hde] at hs4 hce
              have HCE := Lib.hid hce
              have HBE := Lib.hid hbe
              have HDE := Lib.hid hde
              have hll : Hid (ls.length ≤ 1099511627776) := by
                show ls.length ≤ 1099511627776
                have := HR.out.a2; have := HD.out; omega
              clear hnx hyes hce hbe hde
              go_wp2_with fail
              go_at_call 20
              refine (clone_any (some q8) q8 rfl ((Y.drop 8).take N) N c8 _ _ E8.out NB.out ((B8.out.below BW2.out)) BW2.out.size).mono ?_
              rintro e w3 ⟨v3, rfl, ⟨A3, c3, hv3e, hv3x⟩, one3, hk3, hb3⟩
              rw [E8.out] at hv3e
              subst hv3e
              have hv3 : IsBytes w3 (.slice A3 N c3) ((Y.drop 8).take N) := ⟨A3, c3, by rw [E8.out], hv3x⟩
              clear hv3x
              have hap : Apart w3 u4 (.slice A3 N c3) := fun k hk => ⟨fun e => by have h1 := (OW2.out.lt k e).2; have h2 := (hk3 k hk).1; omega, (hk3 k hk).2⟩
              have BW3 := Lib.hid (below_then BW2.out hb3)
              have OW3 := Lib.hid (own_keep OW2.out hb3)
              have RD3 := Lib.hid (RD2.out.later hb3)
              have HV3 := Lib.hid hv3
              have HAP := Lib.hid hap
              clear hv3 hk3 hb3 hap one3 OW2 RD2 BW2 B8
              go_wp2_with (at_builtin; go_loud (refine wpList_append_sl rfl (.tmp 39) (.tmp 42) rfl w _ ls.length us rfl (own_keep OW3.out ((Below.refl _ _).alloc (Nat.le_refl _) _)) (BW3.out.alloc BW3.out.size _) ⟨w3.heap.size, 0, none⟩ _ (.slice A3 N c3) rfl rfl (cell_new _ _ _) hll.out ?_); intro v4 w4 own4 bw4 g2 g4; have G2 := Lib.hid g2; have G4 := Lib.hid g4; clear g2 g4)
              have al : ∀ o : Obj, Below w3.heap.size w3 (w3.alloc o) := fun o => (Below.refl _ _).alloc (Nat.le_refl _) _
              have rd4 := Reads.onto (RD3.out.later (al _)) (HV3.out.later (al _)) (HAP.out.later (al _).size) G2.out G4.out
              have OW4 := Lib.hid own4
              have BW4 := Lib.hid bw4
              have RD4 := Lib.hid rd4
              clear own4 bw4 rd4 al
              go_wp2_with fail
              go_roundw
              case rel => exact ⟨at_ + 8 + N, _, _, Ae, de, ce, HNX.out, by have := HD.out; have := HDE.out; have := H8.out; omega, rfl, HCE.out, HBE.out, by rw [List.length_append]; exact OW4.out, RD4.out, BW4.out⟩
              case measure => simp [sliceLen]; have := HDE.out; have := H8.out; omega
            · have hno : Rec.ok Y = false := by rw [HOK.out]; exact decide_eq_false hst
              have HJ := Lib.hid (HR.out.done (by rw [HY.out]; exact hno))
              have hst2 : ¬ ((s : Int) = (t : Int)) := by omega
              clear hno
              go_wp2_with fail
              go_step3
              exact ⟨rfl, at_, ls, us, _, some p0, d, c', _, _, _, _, _, _, _, _, _, _, _, _, _, _, _, _, _, _, _, _, _, _, _, _, _, _, _, _, _, _, _, _, _, _, _, _, _, _, _, _, _, _, _, _, _, _, _, _, _, _, rfl, HJ.out, HD.out, OW2.out, RD2.out, BW2.out⟩
          · have l1 : (d : Int) - 8 < (N : Int) := by omega
            have HJ := Lib.hid (HR.out.done (by rw [HY.out]; exact great_no (.inr (by rw [HNM.out, HYL.out]; omega))))
            go_wp2_with fail
            go_step3
            exact ⟨rfl, at_, ls, us, _, some p0, d, c', _, _, _, _, _, _, _, _, _, _, _, _, _, _, _, _, _, _, _, _, _, _, _, _, _, _, _, _, _, _, _, _, _, _, _, _, _, _, _, _, _, _, _, _, _, _, _, _, _, _, rfl, HJ.out, HD.out, OW1.out, RD1.out, BW1.out⟩
      · have i8 : (d : Int) < 8 := by omega
        have hj := HR.out.done (by rw [HY.out]; exact short_no (by rw [HYL.out]; omega))
        have HJ := Lib.hid hj
        clear hj hY hYl
        go_wp2_with fail
        go_step3
        exact ⟨rfl, at_, ls, us, _, A', d, c', _, _, _, _, _, _, _, _, _, _, _, _, _, _, _, _, _, _, _, _, _, _, _, _, _, _, _, _, _, _, _, _, _, _, _, _, _, _, _, _, _, _, _, _, _, _, _, _, _, _, rfl, HJ.out, HD.out, OW.out, RD.out, BW.out⟩
  · rintro a' w' ⟨at_, ls, us, v, A', d, c', u1, u2, u3, u6, u7, u8, u9, u10, u11, u12, u13, u14, u15, u16, u17, u18, u19, u20, u21, u22, u23, u24, u25, u26, u27, u28, u29, u30, u31, u32, u33, u34, u35, u36, u37, u38, u39, u40, u41, u42, u43, u44, u45, u46, u47, u48, u49, u50, u51, u52, rfl, hs, hd, hown, hrd, hbw⟩
    have HS := Lib.hid hs
    have HO := Lib.hid hown
    have HR := Lib.hid hrd
    have HBW := Lib.hid hbw
    have d0 : (0 : Int) ≤ (d : Int) := by omega
    have d1 : (d : Int) ≤ (n : Int) := by omega
    have hsub : Hid ((n : Int) - (d : Int) = (at_ : Int)) := by show (n : Int) - (d : Int) = (at_ : Int); omega
    clear hs hd hown hrd hbw
    go_wp2_with fail
    simp only [Exit.jump]
    go_ret2
    refine ⟨⟨v, ?_, ?_⟩, HBW.out⟩
    · rw [HS.out]
      exact ret_two _ _ _ hsub.out
    · rw [HS.out]
      exact IsLists.of HO.out HR.out
theorem rec_ok : RecOk where
  frame A b c B w h1 hA h hB := recframe A b c B b.length w rfl h1 hA h hB up_ok sum_ok
  great A b c B w h1 h2 h hB := recgreat A b c B b.length w rfl h1 h2
  scan A b c B w hl hA hc h hB := recscan A b c b.length w rfl hl hA hc (h.up hB) up_ok sum_ok
end Go.Proofs.Ytmikdnjjnadimaa
