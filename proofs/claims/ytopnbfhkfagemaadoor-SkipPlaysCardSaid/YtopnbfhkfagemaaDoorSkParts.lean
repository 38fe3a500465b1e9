/- The law SkipParts: ranges side by side are the whole; what is below a score and what is not are the whole. -/
import Derived.Test.YtopnbfhkfagemaaDoorSkRow
namespace Go.Proofs.YtopnbfhkfagemaaDoor
open Go.RowKit
set_option linter.unusedVariables false
theorem foldP_mem' {l : List SkM.E} : ∀ y ∈ foldP l, y ∈ l := by
  suffices ∀ (l m : List SkM.E), ∀ y ∈ l.foldl (fun m a => SkM.put m a.1 a.2) m, y ∈ m ∨ y ∈ l by
    intro y hy
    rcases this l [] y hy with h | h
    · cases h
    · exact h
  intro l
  induction l with
  | nil => intro m y hy; exact .inl hy
  | cons a r ih =>
    intro m y hy
    rcases ih _ y hy with h | h
    · rcases SkM.put_mem.1 h with h | ⟨h, -⟩
      · exact .inr (by rw [h]; exact List.mem_cons_self)
      · exact .inl h
    · exact .inr (List.mem_cons_of_mem _ h)
theorem cut_first (l : List SkM.E) (a : Nat) (h : 0 < a) (ha : a ≤ l.length) : SkM.cut l 0 ((a : Int) - 1) = l.take a := by
  have e1 : idx l.length 0 = 0 := by unfold idx; rw [if_neg (by decide)]
  have e2 : idx l.length ((a : Int) - 1) = (a : Int) - 1 := by unfold idx; rw [if_neg (by omega)]
  unfold SkM.cut
  rw [e1, e2, if_neg (by omega)]
  have k : (min ((a : Int) - 1) ((l.length : Int) - 1)).toNat - (max (0 : Int) 0).toNat + 1 = a := by omega
  rw [k]
  rfl
theorem cut_rest (l : List SkM.E) (b : Nat) (hb : b ≤ l.length) : SkM.cut l (b : Int) (l.length : Int) = l.drop b := by
  have e1 : idx l.length (b : Int) = (b : Int) := by unfold idx; rw [if_neg (by omega)]
  have e2 : idx l.length (l.length : Int) = (l.length : Int) := by unfold idx; rw [if_neg (by omega)]
  unfold SkM.cut
  rw [e1, e2]
  by_cases h : b = l.length
  · rw [if_pos (by omega), h, List.drop_length]
  · rw [if_neg (by omega)]
    have k : (min (l.length : Int) ((l.length : Int) - 1)).toNat - (max (b : Int) 0).toNat + 1 = l.length - b := by omega
    have k2 : (max (b : Int) 0).toNat = b := by omega
    rw [k, k2]
    exact List.take_of_length_le (by rw [List.length_drop]; exact Nat.le_refl _)
theorem below_iff {m : List SkM.E} (ok : SkM.Ok m) (v : Int) (j : Nat) (h : j < m.length) : m[j].2 < v ↔ j < (m.takeWhile fun a => decide (a.2 < v)).length := by
  obtain ⟨a, b, e, ha, hb⟩ := SkM.part (fun y => y.2 < v) (fun a b h k => by
    rcases h with h | ⟨h, -⟩
    · exact Int.lt_trans h k
    · show a.2 < v; rw [h]; exact k) m ok.sorted
  have tw := (SkM.while_split (p := fun a : SkM.E => decide (a.2 < v)) (fun y hy => decide_eq_true (ha y hy)) (fun y hy => decide_eq_false (hb y hy))).1
  subst e
  rw [tw]
  by_cases hj : j < a.length
  · rw [List.getElem_append_left hj]
    exact ⟨fun _ => hj, fun _ => ha _ (List.getElem_mem hj)⟩
  · rw [List.getElem_append_right (by omega)]
    exact ⟨fun k => absurd k (hb _ (List.getElem_mem _)), fun k => absurd k hj⟩
theorem below_len (m : List SkM.E) (v : Int) : (m.takeWhile fun a => decide (a.2 < v)).length ≤ m.length := by
  have := (List.takeWhile_sublist (p := fun a : SkM.E => decide (a.2 < v)) (l := m)).length_le
  exact this
theorem mod_natP (t : Int) (n : Nat) (hn : 0 < n) (hb : n ≤ 1048576) : ∃ k : Nat, k < n ∧ (IntKind.u64.wrap t).tmod (n : Int) = (k : Int) := by
  have h : 0 ≤ IntKind.u64.wrap t := by rw [IntKind.wrap_u64]; omega
  rw [Int.tmod_eq_emod_of_nonneg h]
  have p := Int.emod_lt_of_pos (IntKind.u64.wrap t) (show (0 : Int) < (n : Int) by omega)
  have q := Int.emod_nonneg (IntKind.u64.wrap t) (show (n : Int) ≠ 0 by omega)
  exact ⟨(IntKind.u64.wrap t % (n : Int)).toNat, by omega, by omega⟩
set_option maxRecDepth 20000 in
theorem parts_long (w : World) (tz : Tz w) (A : Option Addr) (n c : Nat) (i v : Int) (h : 60 < n) :
    Calls Tryd.prog 6 #[.slice A n c, .int .i64 i, .int .i64 v] w fun e w' => e = .returned (.bool true) ∧ Below w.heap.size w w' := by
  have h1 : (60 : Int) < (n : Int) := by omega
  have TZ := Lib.hid tz
  clear h tz
  go_enter Tryd.func6, Tryd.ntmps6
  go_wp2_with fail
  go_at_call 7
  refine (told_any _ TZ.out).mono ?_
  rintro e w' ⟨rfl, hb⟩
  go_wp2_with fail
  go_ret
  exact ⟨rfl, hb⟩
set_option maxRecDepth 20000 in
set_option maxHeartbeats 4000000 in
theorem parts_walk (w : World) (tz : Tz w) (A : Option Addr) (l : List SkM.E) (n c : Nat) (hn : l.length = n) (hrow : SList w (.slice A n c) l) (h9 : n ≤ 60) (hnm : ∀ y ∈ l, y.1.length ≤ lim ∧ (Lit.int .i64 y.2).wf = true) (i v : Int) :
    Calls Tryd.prog 6 #[.slice A n c, .int .i64 i, .int .i64 v] w fun e w' => e = .returned (.bool true) ∧ Below w.heap.size w w' := by
  have TZ := Lib.hid tz
  have OF := Lib.hid (of_any w tz A l n c hn hrow (by omega) fun y hy => (hnm y hy).1)
  obtain ⟨m, hm⟩ : ∃ m, foldP l = m := ⟨_, rfl⟩
  rw [hm] at OF
  have HM9 : Hid (m.length ≤ 60) := by show _ ≤ _; rw [← hm]; have := foldP_len l; omega
  have n9 : (n : Int) ≤ 60 := by omega
  clear tz hrow hnm hm hn h9
  go_enter Tryd.func6, Tryd.ntmps6
  go_wp2_with fail
  go_at_call 8
  refine OF.out.mono ?_
  rintro e w1 ⟨p, rfl, h1⟩
  have H1 := Lib.hid h1
  have OK := Lib.hid h1.ok
  clear h1 OF
  go_wp2_with fail
  go_at_call 17
  obtain ⟨⟨G, hr, hg⟩, -⟩ := H1.out
  refine (rall hr).mono ?_
  rintro e w2 ⟨⟨va, rfl, hs⟩, hb2⟩
  have H2 := Lib.hid (H1.out.keep hb2)
  have SA := Lib.hid hs
  obtain ⟨A2, c2, rfl, -, -, hcells⟩ := hs
  have HC := Lib.hid hcells
  obtain ⟨N, hN⟩ : ∃ N, m.length = N := ⟨_, rfl⟩
  have HN := Lib.hid hN
  rw [hN] at SA ⊢
  have N9 : (N : Int) ≤ 60 := by have := HM9.out; omega
  have N0 : (0 : Int) ≤ (N : Int) := by omega
  obtain ⟨K, hK, ek⟩ := mod_natP i (N + 1) (by omega) (by have := HM9.out; omega)
  replace ek : (IntKind.u64.wrap i).tmod ((N : Int) + 1) = (K : Int) := ek
  have ek1 : wrap64 (K : Int) = (K : Int) := by unfold wrap64; omega
  have ek2 : IntKind.u64.wrap ((N : Int) + 1) = (N : Int) + 1 := by rw [IntKind.wrap_u64]; omega
  have KN : (K : Int) ≤ (N : Int) := by omega
  have K0 : (0 : Int) ≤ (K : Int) := by omega
  have HK : Hid (K ≤ N) := by show K ≤ N; omega
  have ek3 : ((N : Int) + 1 == 0) = false := by simp; omega
  have ek4 : ¬ (N : Int) + 1 = 0 := by omega
  have ek5 : ¬ N + 1 = 0 := by omega
  clear hr hg hb2 hcells H1 hN hK
  by_cases hk0 : 0 < K
  · have k1 : (0 : Int) < (K : Int) := by omega
    go_wp2_with fail
    go_at_call 24
    obtain ⟨⟨G, hr, hg⟩, -⟩ := H2.out
    refine (rrange hr 0 ((K : Int) - 1) (by omega) (by omega) (by omega) (by omega)).mono ?_
    rintro e wa ⟨⟨va, rfl, hsa⟩, hba⟩
    rw [cut_first m K hk0 (by rw [HN.out]; exact HK.out)] at hsa
    have SLA := Lib.hid hsa
    have HA := Lib.hid (H2.out.keep hba)
    have BA := Lib.hid hba
    obtain ⟨Aa, ca, rfl, -⟩ := hsa
    have lt : (m.take K).length = K := by rw [List.length_take, HN.out]; have := HK.out; omega
    rw [lt] at SLA ⊢
    clear hr hg hba H2 lt hk0
    go_wp2_with fail
    go_at_call 24
    obtain ⟨⟨G, hr, hg⟩, -⟩ := HA.out
    refine (rrange hr (K : Int) (N : Int) (by omega) (by omega) (by omega) (by omega)).mono ?_
    rintro e wb ⟨⟨vb, rfl, hsb⟩, hbb⟩
    rw [← HN.out, cut_rest m K (by rw [HN.out]; exact HK.out)] at hsb
    have SB := Lib.hid hsb
    have HB := Lib.hid (HA.out.keep hbb)
    have BB := Lib.hid (below_then BA.out hbb)
    have SLB := Lib.hid (SLA.out.keep hbb)
    obtain ⟨Ab, cb, rfl, -⟩ := hsb
    obtain ⟨M, hM⟩ : ∃ M, (m.drop K).length = M := ⟨_, rfl⟩
    rw [hM] at SB ⊢
    have MN : Hid (K + M = N) := by show _ = _; rw [← hM, List.length_drop, HN.out]; have := HK.out; omega
    clear hr hg hbb HA SLA BA hM
    go_wp2_with fail
    go_at_call 21
    obtain ⟨⟨G, hr, hg⟩, -⟩ := HB.out
    refine (rbelow hr v).mono ?_
    rintro e wd ⟨rfl, hbd⟩
    have HD := Lib.hid (HB.out.keep hbd)
    have BD := Lib.hid (below_then BB.out hbd)
    have SLD := Lib.hid (SLB.out.keep hbd)
    have SBD := Lib.hid (SB.out.keep hbd)
    obtain ⟨T, hT⟩ : ∃ T, (m.takeWhile fun a => decide (a.2 < v)).length = T := ⟨_, rfl⟩
    have HT := Lib.hid hT
    rw [hT]
    have TN : (T : Int) ≤ (N : Int) := by have := below_len m v; rw [hT, HN.out] at this; omega
    have T0 : (0 : Int) ≤ (T : Int) := by omega
    clear hr hg hbd HB SLB SB BB hT
    go_wp2_with fail
    go_loopw [14] (fun u wr => ∃ j : Nat, j ≤ N ∧ u = .int .i64 (j : Int) ∧ wr = wd) (fun u _ => N - (intOf u).toNat)
    case atStart => exact ⟨0, Nat.zero_le _, rfl, rfl⟩
    case round =>
      obtain ⟨j, hj, rfl, rfl⟩ := hrel
      have j0 : (0 : Int) ≤ (j : Int) := by omega
      by_cases hlt : j < N
      · have j1 : (j : Int) < (N : Int) := by omega
        have hjl : j < m.length := by rw [HN.out]; exact hlt
        obtain ⟨a, rfl, ha, -, e1⟩ := HC.out j hjl
        have bi := below_iff OK.out v j hjl
        obtain ⟨u, hu⟩ : ∃ u, m[j].2 = u := ⟨_, rfl⟩
        rw [HT.out, hu] at bi
        rw [hu] at e1
        replace e1 : wr.cell? ⟨(a.add (j * 2)).block, (a.add (j * 2)).off + 1, none⟩ = some (.int .i64 u) := (BD.out.cell (p := ⟨(a.add (j * 2)).block, (a.add (j * 2)).off + 1, none⟩) (by show (a.add (j * 2)).block < _; rw [add_block]; exact ha)).trans e1
        have NX := Lib.hid hlt
        clear hjl ha hu hj hlt
        by_cases hd : j < T
        · have d1 : u < v := bi.2 hd
          have d2 : (j : Int) < (T : Int) := by omega
          clear bi hd
          go_wp2_with fail
          exact ⟨⟨j + 1, NX.out, by go_num, trivial⟩, by have := NX.out; simp [intOf]; omega⟩
        · have d1 : v ≤ u := by
            by_cases h : u < v
            · exact absurd (bi.1 h) hd
            · omega
          have d2 : (T : Int) ≤ (j : Int) := by omega
          have d3 : decide (j < T) = false := decide_eq_false hd
          have d4 : decide (u < v) = false := decide_eq_false (by omega)
          have d5 : ¬ j < T := hd
          clear bi hd
          go_wp2_with fail
          exact ⟨⟨j + 1, NX.out, by go_num, trivial⟩, by have := NX.out; simp [intOf]; omega⟩
      · have j1 : (N : Int) ≤ (j : Int) := by omega
        clear hj hlt
        go_wp2_with fail
        go_at_call 7
        refine (told_any _ (TZ.out.below HD.out.below)).mono ?_
        rintro e we ⟨rfl, hbe⟩
        have BE := Lib.hid (below_then HD.out.below hbe)
        have SLE := Lib.hid (SLD.out.keep hbe)
        have SBE := Lib.hid (SBD.out.keep hbe)
        have SAE := Lib.hid (SA.out.keep (below_then BD.out hbe))
        have OW0 := Lib.hid (srow_none we 30 rfl)
        have al0 : Below we.heap.size we (we.alloc (.cells #[] 30)) := (Below.refl _ we).alloc (Nat.le_refl _) _
        have AL0 := Lib.hid al0
        have LT : Hid ((m.take K).length = K ∧ (m.drop K).length = M) := by show _ ∧ _; rw [List.length_take, List.length_drop, HN.out]; have := HK.out; have := MN.out; omega
        clear hbe al0
        go_wp2_with (first
          | (at_builtin; refine wpList_free (by rfl) ?_; refine wpList_append_scores rfl (.tmp 72) (.tmp 73) rfl we.heap.size _ [] rfl OW0.out (.slice Aa K ca) (m.take K) rfl (SLE.out.keep AL0.out) (by have := HM9.out; have := LT.out; have := HK.out; have := HN.out; simp only [List.length_nil]; omega) AL0.out.size ?_; intro v1 w1' own1 gr1 _; rw [List.nil_append] at own1; have B1 : Hid (Below we.heap.size we w1') := OW0.out.grown AL0.out gr1; have OW1 := Lib.hid own1; obtain ⟨A1', c1', rfl⟩ := own1.shows; rw [LT.out.1] at OW1 ⊢; clear own1 gr1)
          | (at_builtin; refine wpList_free (by rfl) ?_; refine wpList_append_scores rfl (.tmp 74) (.tmp 75) rfl we.heap.size _ (m.take K) rfl OW1.out (.slice Ab M cb) (m.drop K) rfl (SBE.out.keep B1.out) (by have := HM9.out; have := LT.out; have := HK.out; have := HN.out; have := MN.out; omega) B1.out.size ?_; intro v2 w2' own2 gr2 _; rw [List.take_append_drop] at own2; have B2 : Hid (Below we.heap.size we w2') := OW1.out.grown B1.out gr2; have OW2 := Lib.hid own2; obtain ⟨A2', c2', rfl⟩ := own2.shows; rw [HN.out] at OW2 ⊢; clear own2 gr2)
          | (go_at_call 16; refine (scores_any _ _ _ m OW2.out.list (SAE.out.keep B2.out) (by have := HM9.out; omega)).mono ?_; rintro e w3' ⟨rfl, hb3'⟩))
        go_ret
        exact ⟨rfl, below_then BE.out (below_then B2.out hb3')⟩
  · obtain rfl : K = 0 := by omega
    have HA := H2
    have BA : Hid (Below w2.heap.size w2 w2) := Below.refl _ _
    have SLA : Hid (SList w2 (.slice none 0 0) (m.take 0)) := ⟨none, 0, rfl, fun _ => rfl, Nat.le_refl _, fun i hi => absurd hi (Nat.not_lt_zero _)⟩
    clear H2 hk0
    go_wp2_with fail
    go_at_call 24
    obtain ⟨⟨G, hr, hg⟩, -⟩ := HA.out
    refine (rrange hr (0 : Int) (N : Int) (by omega) (by omega) (by omega) (by omega)).mono ?_
    rintro e wb ⟨⟨vb, rfl, hsb⟩, hbb⟩
    rw [← HN.out, show SkM.cut m 0 (m.length : Int) = m.drop 0 from cut_rest m 0 (Nat.zero_le _)] at hsb
    have SB := Lib.hid hsb
    have HB := Lib.hid (HA.out.keep hbb)
    have BB := Lib.hid (below_then BA.out hbb)
    have SLB := Lib.hid (SLA.out.keep hbb)
    obtain ⟨Ab, cb, rfl, -⟩ := hsb
    obtain ⟨M, hM⟩ : ∃ M, (m.drop 0).length = M := ⟨_, rfl⟩
    rw [hM] at SB ⊢
    have MN : Hid (0 + M = N) := by show _ = _; rw [← hM, List.length_drop, HN.out]; have := HK.out; omega
    clear hr hg hbb HA SLA BA hM
    go_wp2_with fail
    go_at_call 21
    obtain ⟨⟨G, hr, hg⟩, -⟩ := HB.out
    refine (rbelow hr v).mono ?_
    rintro e wd ⟨rfl, hbd⟩
    have HD := Lib.hid (HB.out.keep hbd)
    have BD := Lib.hid (below_then BB.out hbd)
    have SLD := Lib.hid (SLB.out.keep hbd)
    have SBD := Lib.hid (SB.out.keep hbd)
    obtain ⟨T, hT⟩ : ∃ T, (m.takeWhile fun a => decide (a.2 < v)).length = T := ⟨_, rfl⟩
    have HT := Lib.hid hT
    rw [hT]
    have TN : (T : Int) ≤ (N : Int) := by have := below_len m v; rw [hT, HN.out] at this; omega
    have T0 : (0 : Int) ≤ (T : Int) := by omega
    clear hr hg hbd HB SLB SB BB hT
    go_wp2_with fail
    go_loopw [14] (fun u wr => ∃ j : Nat, j ≤ N ∧ u = .int .i64 (j : Int) ∧ wr = wd) (fun u _ => N - (intOf u).toNat)
    case atStart => exact ⟨0, Nat.zero_le _, rfl, rfl⟩
    case round =>
      obtain ⟨j, hj, rfl, rfl⟩ := hrel
      have j0 : (0 : Int) ≤ (j : Int) := by omega
      by_cases hlt : j < N
      · have j1 : (j : Int) < (N : Int) := by omega
        have hjl : j < m.length := by rw [HN.out]; exact hlt
        obtain ⟨a, rfl, ha, -, e1⟩ := HC.out j hjl
        have bi := below_iff OK.out v j hjl
        obtain ⟨u, hu⟩ : ∃ u, m[j].2 = u := ⟨_, rfl⟩
        rw [HT.out, hu] at bi
        rw [hu] at e1
        replace e1 : wr.cell? ⟨(a.add (j * 2)).block, (a.add (j * 2)).off + 1, none⟩ = some (.int .i64 u) := (BD.out.cell (p := ⟨(a.add (j * 2)).block, (a.add (j * 2)).off + 1, none⟩) (by show (a.add (j * 2)).block < _; rw [add_block]; exact ha)).trans e1
        have NX := Lib.hid hlt
        clear hjl ha hu hj hlt
        by_cases hd : j < T
        · have d1 : u < v := bi.2 hd
          have d2 : (j : Int) < (T : Int) := by omega
          clear bi hd
          go_wp2_with fail
          exact ⟨⟨j + 1, NX.out, by go_num, trivial⟩, by have := NX.out; simp [intOf]; omega⟩
        · have d1 : v ≤ u := by
            by_cases h : u < v
            · exact absurd (bi.1 h) hd
            · omega
          have d2 : (T : Int) ≤ (j : Int) := by omega
          have d3 : decide (j < T) = false := decide_eq_false hd
          have d4 : decide (u < v) = false := decide_eq_false (by omega)
          have d5 : ¬ j < T := hd
          clear bi hd
          go_wp2_with fail
          exact ⟨⟨j + 1, NX.out, by go_num, trivial⟩, by have := NX.out; simp [intOf]; omega⟩
      · have j1 : (N : Int) ≤ (j : Int) := by omega
        clear hj hlt
        go_wp2_with fail
        go_at_call 7
        refine (told_any _ (TZ.out.below HD.out.below)).mono ?_
        rintro e we ⟨rfl, hbe⟩
        have BE := Lib.hid (below_then HD.out.below hbe)
        have SLE := Lib.hid (SLD.out.keep hbe)
        have SBE := Lib.hid (SBD.out.keep hbe)
        have SAE := Lib.hid (SA.out.keep (below_then BD.out hbe))
        have OW0 := Lib.hid (srow_none we 30 rfl)
        have al0 : Below we.heap.size we (we.alloc (.cells #[] 30)) := (Below.refl _ we).alloc (Nat.le_refl _) _
        have AL0 := Lib.hid al0
        have LT : Hid ((m.take 0).length = 0 ∧ (m.drop 0).length = M) := by show _ ∧ _; rw [List.length_take, List.length_drop, HN.out]; have := HK.out; have := MN.out; omega
        clear hbe al0
        go_wp2_with (first
          | (at_builtin; refine wpList_free (by rfl) ?_; refine wpList_append_scores rfl (.tmp 72) (.tmp 73) rfl we.heap.size _ [] rfl OW0.out (.slice none 0 0) (m.take 0) rfl (SLE.out.keep AL0.out) (by have := HM9.out; have := LT.out; have := HK.out; have := HN.out; simp only [List.length_nil]; omega) AL0.out.size ?_; intro v1 w1' own1 gr1 _; rw [List.nil_append] at own1; have B1 : Hid (Below we.heap.size we w1') := OW0.out.grown AL0.out gr1; have OW1 := Lib.hid own1; obtain ⟨A1', c1', rfl⟩ := own1.shows; rw [LT.out.1] at OW1 ⊢; clear own1 gr1)
          | (at_builtin; refine wpList_free (by rfl) ?_; refine wpList_append_scores rfl (.tmp 74) (.tmp 75) rfl we.heap.size _ (m.take 0) rfl OW1.out (.slice Ab M cb) (m.drop 0) rfl (SBE.out.keep B1.out) (by have := HM9.out; have := LT.out; have := HK.out; have := HN.out; have := MN.out; omega) B1.out.size ?_; intro v2 w2' own2 gr2 _; rw [List.take_append_drop] at own2; have B2 : Hid (Below we.heap.size we w2') := OW1.out.grown B1.out gr2; have OW2 := Lib.hid own2; obtain ⟨A2', c2', rfl⟩ := own2.shows; rw [HN.out] at OW2 ⊢; clear own2 gr2)
          | (go_at_call 16; refine (scores_any _ _ _ m OW2.out.list (SAE.out.keep B2.out) (by have := HM9.out; omega)).mono ?_; rintro e w3' ⟨rfl, hb3'⟩))
        go_ret
        exact ⟨rfl, below_then BE.out (below_then B2.out hb3')⟩
end Go.Proofs.YtopnbfhkfagemaaDoor
