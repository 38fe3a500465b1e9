/- The document's own disk: a file made in the row, the region that puts it in. -/
import Derived.Test.YthclaolmmlgalaaRefOut
namespace Go.Proofs.Ythclaolmmlgalaa
open Go.RowKit
set_option linter.unusedVariables false

theorem bytesLess_lt : ∀ a b : List UInt8, Op.bytesLess a b = DiskM.lt a b
  | [], [] => rfl
  | [], _ :: _ => rfl
  | _ :: _, [] => rfl
  | c :: a, d :: b => by
    rw [DiskM.lt, ← bytesLess_lt a b, Op.bytesLess]
    by_cases h : c < d
    · simp [h]
    · by_cases k : d < c
      · have : c ≠ d := fun e => by subst e; exact h k
        simp [h, k, this]
      · have e : c = d := UInt8.le_antisymm (UInt8.not_lt.1 k) (UInt8.not_lt.1 h)
        subst e
        simp [UInt8.lt_irrefl]
theorem row_in {w : World} {base n size : Nat} {t : TypeId} {v : Value} {xs : List Value} (h : w.ownsRow base t size v n xs) {b : Nat} (hb : v.ownBlock = some b) : b < w.heap.size := by
  rcases h.2 with ⟨rfl, h0⟩ | ⟨g, cap, cur, rfl, hg, hbk, r⟩
  · cases hb
  · injection hb with e
    subst e
    exact (Array.getElem?_eq_some_iff.1 hbk).1
theorem one_cells (s : ByteArray) : fcells [⟨s.data.toList, [], 0⟩] = [.string s, .string ⟨#[]⟩, .int .i64 0] := rfl
theorem new_cells {W : World} {C : Array Value} {t : TypeId} {fr : Nat × Nat} {b : Nat} (h : W.heap[b]? = some (.cells C t fr)) : ∀ j u, C.toList[j]? = some u → W.cell? ((⟨b, 0, none⟩ : Addr).add j) = some u := fun j u hu => by
  rw [Addr.add_lit, Nat.zero_add]
  simp only [World.cell?, h]
  simpa using hu
set_option maxRecDepth 20000 in
set_option maxHeartbeats 8000000 in
theorem made_walk (w : World) (g h : Nat) (M : DiskM.D) (R : RD w g h M) (s : ByteArray) (hno : DiskM.find M.l s.data.toList = none) :
    Calls Try.prog 38 #[.pointer (some ⟨g, 0, none⟩), .string s] w fun e w' => ∃ i : Nat, e = .returned (.int .i64 i) ∧ i ≤ M.l.length ∧ (∀ j (hj : j < M.l.length), j < i → DiskM.lt M.l[j].name s.data.toList = true) ∧ (∀ hi : i < M.l.length, DiskM.lt M.l[i].name s.data.toList = false) ∧
      ∃ v W, w' = W.setCell ⟨g, 0, none⟩ v ∧ Below w.heap.size w W ∧ W.ownsRow w.heap.size 52 3 v (M.l.length + 1) (fcells (M.l.take i ++ ⟨s.data.toList, [], 0⟩ :: M.l.drop i)) := by
  have hpl : place M.l s.data.toList = -1 := by
    unfold place
    rw [if_neg]
    intro hlt
    have h1 := List.findIdx_getElem (w := hlt)
    have h2 : DiskM.find M.l s.data.toList = some M.l[M.l.findIdx fun f => f.name == s.data.toList] := by
      unfold DiskM.find
      rw [find_idx]
      exact List.getElem?_eq_getElem hlt
    rw [hno] at h2
    cases h2
  obtain ⟨A, c, c0, hc, hA⟩ := R.l
  have HR := Lib.hid R
  have hf := R.few
  have HA := Lib.hid hA
  have f0 := R.free 0
  have hgl := R.lt
  clear R hA
  obtain ⟨n, hn⟩ : ∃ n, M.l.length = n := ⟨_, rfl⟩
  have HN := Lib.hid hn
  rw [hn] at c0 hc hf
  have n9 : (n : Int) ≤ 1000 := by omega
  have nc : (n : Int) ≤ (c : Int) := by omega
  have HPL := Lib.hid hpl
  clear hn hpl hno
  go_enter Try.func38, Try.ntmps38
  go_wp2_with fail
  go_at_call 46
  refine (find_any w g h M HR.out s).mono ?_
  rintro e w' ⟨rfl, rfl⟩
  rw [HPL.out]
  go_wp2_with fail
  go_loop [6] (fun i => ∃ k : Nat, k ≤ n ∧ i = .int .i64 k ∧ ∀ j (hj : j < M.l.length), j < k → DiskM.lt M.l[j].name s.data.toList = true) (fun i => n - (intOf i).toNat)
  case atStart => exact ⟨0, Nat.zero_le _, rfl, fun j hj h => absurd h (Nat.not_lt_zero _)⟩
  case round =>
    obtain ⟨k, hk, rfl, hb⟩ := hrel
    have HB := Lib.hid hb
    clear hb
    have k0 : (0 : Int) ≤ (k : Int) := by omega
    have hstop : (k < n ∧ ∃ hkl : k < M.l.length, DiskM.lt (M.l[k]'hkl).name s.data.toList = true) ∨ (∀ hi : k < M.l.length, DiskM.lt M.l[k].name s.data.toList = false) := by
      by_cases hlt : k < n
      · have hkl : k < M.l.length := by rw [HN.out]; exact hlt
        cases e : DiskM.lt (M.l[k]'hkl).name s.data.toList
        · exact .inr fun _ => e
        · exact .inl ⟨hlt, hkl, e⟩
      · exact .inr fun hi => by rw [HN.out] at hi; omega
    rcases hstop with ⟨hlt, hkl, hyes⟩ | hstop
    · have k1 : (k : Int) < (n : Int) := by omega
      obtain ⟨rfl, rfl⟩ | rfl := HA.out
      · exact absurd hc (by omega)
      · obtain ⟨f1, -, -, -⟩ := HR.out.row.2 k hkl
        obtain ⟨nm, hnm⟩ : ∃ nm : ByteArray, (⟨M.l[k].name.toArray⟩ : ByteArray) = nm := ⟨_, rfl⟩
        rw [hnm] at f1
        have hcmp : Op.bytesLess nm.toList s.toList = true := by
          rw [bytesLess_lt, ByteArray.toList_eq, ByteArray.toList_eq, ← hnm]
          exact hyes
        have HY := Lib.hid hyes
        clear hyes hnm
        go_wp2_with fail
        go_round
        case rel => exact ⟨k + 1, hlt, by go_num, fun j hj hjk => by
          by_cases x : j = k
          · subst x; exact HY.out
          · exact HB.out j hj (by omega)⟩
        case measure => simp [intOf]; omega
    · have HST := Lib.hid hstop
      have hkn : k < n ∨ k = n := by omega
      have HF := Lib.hid HR.out.row
      have kn : (k : Int) ≤ (n : Int) := by omega
      have kc : (k : Int) ≤ (c : Int) := by omega
      have key : (k = n ∧ True) ∨ (k < n ∧ A = some ⟨h, 0, none⟩ ∧ ∃ nm : ByteArray, w.cell? ⟨h, k * 3, none⟩ = some (.string nm) ∧ Op.bytesLess nm.toList s.toList = false) := by
        rcases hkn with hlt | rfl
        · right
          have hkl : k < M.l.length := by rw [HN.out]; exact hlt
          have e : A = some ⟨h, 0, none⟩ := by
            rcases HA.out with ⟨_, z⟩ | z
            · omega
            · exact z
          obtain ⟨f1, -, -, -⟩ := HR.out.row.2 k hkl
          refine ⟨hlt, e, _, f1, ?_⟩
          rw [bytesLess_lt, ByteArray.toList_eq, ByteArray.toList_eq]
          exact HST.out hkl
        · exact .inl ⟨rfl, trivial⟩
      clear hstop hkn
      have hgo : ∀ (a' : Act) (Q' : Exit → Act → World → Prop), True := fun _ _ => trivial
      have arms : (A = none ∧ c = 0 ∧ n = 0 ∧ k = 0) ∨ (A = some ⟨h, 0, none⟩ ∧ n ≤ k) ∨ (A = some ⟨h, 0, none⟩ ∧ k < n ∧ ∃ nm : ByteArray, w.cell? ⟨h, k * 3, none⟩ = some (.string nm) ∧ Op.bytesLess nm.toList s.toList = false) := by
        rcases HA.out with ⟨z1, z2⟩ | z
        · exact .inl ⟨z1, z2, by omega, by omega⟩
        · rcases key with ⟨z1, -⟩ | ⟨z1, _, z2⟩
          · exact .inr (.inl ⟨z, by omega⟩)
          · exact .inr (.inr ⟨z, z1, z2⟩)
      have HB2 := Lib.hid HB.out
      clear key hgo HA HB
      obtain ⟨X1, hX1⟩ : ∃ X1, X1 = M.l.take k := ⟨_, rfl⟩
      obtain ⟨X2, hX2⟩ : ∃ X2, X2 = M.l.drop k := ⟨_, rfl⟩
      have hlen1 : X1.length = k := by rw [hX1, List.length_take, HN.out]; omega
      have hlen2 : X2.length = n - k := by rw [hX2, List.length_drop, HN.out]
      have HX1 := Lib.hid hX1
      have HX2 := Lib.hid hX2
      have HL1 := Lib.hid hlen1
      have HL2 := Lib.hid hlen2
      have HNW1 : Hid (∀ {W : World}, Below w.heap.size w W → ∀ j u, (fcells X1)[j]? = some u → W.cell? ((⟨h, 0, none⟩ : Addr).add j) = some u) := fun {W} hW j u hu => by
        have hpos : 0 < M.l.length := Nat.pos_of_ne_zero fun e => by rw [hX1, List.eq_nil_of_length_eq_zero e, List.take_nil] at hu; simp [fcells] at hu
        rw [Addr.add_lit, Nat.zero_add, hW.cell (HF.out.1 hpos)]
        exact HF.out.front k j u (by rw [← hX1]; exact hu)
      have HNW2 : Hid (∀ {W : World}, Below w.heap.size w W → ∀ j u, (fcells X2)[j]? = some u → W.cell? ((⟨h, k * 3, none⟩ : Addr).add j) = some u) := fun {W} hW j u hu => by
        have hpos : 0 < M.l.length := Nat.pos_of_ne_zero fun e => by rw [hX2, List.eq_nil_of_length_eq_zero e, List.drop_nil] at hu; simp [fcells] at hu
        rw [Addr.add_lit, hW.cell (HF.out.1 hpos)]
        exact HF.out.news k j u (by rw [← hX2]; exact hu)
      clear hX1 hX2 hlen1 hlen2
      rcases arms with ⟨rfl, rfl, rfl, rfl⟩ | ⟨rfl, k1⟩ | ⟨rfl, k1, nm, f1, hcmp⟩
      · go_wp2_with fail
        refine wp_region_tail_list (S := fun W => Below w.heap.size w W ∧ W.cell? ⟨g, 0, none⟩ = some (.slice none 0 0)) (by simp) (by kernel_rfl) (by kernel_rfl) ⟨(Below.refl _ _).drew, c0⟩ (fun hHeld => ?_)
        simp only [List.dropLast_cons_cons, List.dropLast_singleton, List.getLast_cons_cons, List.getLast_singleton, List.length_cons, List.length_nil, Nat.reduceAdd]
        refine wpAnyH_take (i := 0) (v := ?_) rfl (by kernel_rfl) (by kernel_rfl) (by kernel_rfl) (fun _ _ _ h => h) (Or.inl ⟨by rfl, ?_⟩) hHeld ?_
        rotate_left
        · intro W hSw; obtain ⟨hb, hcell⟩ := hSw; go_simp; try with_reducible rfl
        refine wpAnyH_take (i := 2) (v := ?_) rfl (by kernel_rfl) (by kernel_rfl) (by kernel_rfl) (fun _ _ _ h => h) (Or.inl ⟨by rfl, ?_⟩) hHeld ?_
        rotate_left
        · intro W hSw; obtain ⟨hb, hcell⟩ := hSw; go_simp; try with_reducible rfl
        refine wpAnyH_take (i := 3) (v := ?_) rfl (by kernel_rfl) (by kernel_rfl) (by kernel_rfl) (fun _ _ _ h => h) (Or.inl ⟨by rfl, ?_⟩) hHeld ?_
        rotate_left
        · intro W hSw; obtain ⟨hb, hcell⟩ := hSw; go_simp; try with_reducible rfl
        refine wpAnyH_take (i := 4) (v := ?_) rfl (by kernel_rfl) (by kernel_rfl) (by kernel_rfl) (fun _ _ _ h => h) (Or.inl ⟨by rfl, ?_⟩) hHeld ?_
        rotate_left
        · intro W hSw; obtain ⟨hb, hcell⟩ := hSw; go_simp; try with_reducible rfl
        refine wpAnyH_take (i := 5) (v := ?_) rfl (by kernel_rfl) (by kernel_rfl) (by kernel_rfl) (fun _ _ _ h => h) (Or.inl ⟨by rfl, ?_⟩) hHeld ?_
        rotate_left
        · intro W hSw; obtain ⟨hb, hcell⟩ := hSw; go_simp; try with_reducible rfl
        refine wpAnyH_take (i := 6) (v := ?_) rfl (by kernel_rfl) (by kernel_rfl) (by kernel_rfl) (fun _ _ _ h => h) (Or.inl ⟨by rfl, ?_⟩) hHeld ?_
        rotate_left
        · intro W hSw; obtain ⟨hb, hcell⟩ := hSw; go_simp; try with_reducible rfl
        refine wpAnyH_take (i := 7) (v := ?_) rfl (by kernel_rfl) (by kernel_rfl) (by kernel_rfl) (fun _ _ _ h => h) (Or.inl ⟨by rfl, ?_⟩) hHeld ?_
        rotate_left
        · intro W hSw; obtain ⟨hb, hcell⟩ := hSw; go_simp; try with_reducible rfl
        refine wpAnyH_take (i := 9) (v := ?_) rfl (by kernel_rfl) (by kernel_rfl) (by kernel_rfl) (fun _ _ _ h => h) (Or.inl ⟨by rfl, ?_⟩) hHeld ?_
        rotate_left
        · intro W hSw; obtain ⟨hb, hcell⟩ := hSw; go_simp; try with_reducible rfl
        refine wpAnyH_take (i := 10) (v := ?_) rfl (by kernel_rfl) (by kernel_rfl) (by kernel_rfl) (fun _ _ _ h => h) (Or.inl ⟨by rfl, ?_⟩) hHeld ?_
        rotate_left
        · intro W hSw; obtain ⟨hb, hcell⟩ := hSw; go_simp; try with_reducible rfl
        refine wpAnyH_take (i := 13) (v := ?_) rfl (by kernel_rfl) (by kernel_rfl) (by kernel_rfl) (fun _ _ _ h => h) (Or.inl ⟨by rfl, ?_⟩) hHeld ?_
        rotate_left
        · intro W hSw; obtain ⟨hb, hcell⟩ := hSw; go_simp; try with_reducible rfl
        refine wpAnyH_take (i := 14) (v := ?_) rfl (by kernel_rfl) (by kernel_rfl) (by kernel_rfl) (fun _ _ _ h => h) (Or.inl ⟨by rfl, ?_⟩) hHeld ?_
        rotate_left
        · intro W hSw; obtain ⟨hb, hcell⟩ := hSw; go_simp; try with_reducible rfl
        refine wpAnyH_take (i := 15) (v := ?_) rfl (by kernel_rfl) (by kernel_rfl) (by kernel_rfl) (fun _ _ _ h => h) (Or.inl ⟨by rfl, ?_⟩) hHeld ?_
        rotate_left
        · intro W hSw; obtain ⟨hb, hcell⟩ := hSw; go_simp; try with_reducible rfl
        refine wpAnyH_take (i := 16) (v := ?_) rfl (by kernel_rfl) (by kernel_rfl) (by kernel_rfl) (fun _ _ _ h => h) (Or.inl ⟨by rfl, ?_⟩) hHeld ?_
        rotate_left
        · intro W hSw; obtain ⟨hb, hcell⟩ := hSw; go_simp; try with_reducible rfl
        refine wpAnyH_take (i := 17) (v := ?_) rfl (by kernel_rfl) (by kernel_rfl) (by kernel_rfl) (fun _ _ _ h => h) (Or.inl ⟨by rfl, ?_⟩) hHeld ?_
        rotate_left
        · intro W hSw; obtain ⟨hb, hcell⟩ := hSw; go_simp; try with_reducible rfl
        refine wpAnyH_take (i := 18) (v := ?_) rfl (by kernel_rfl) (by kernel_rfl) (by kernel_rfl) (fun _ _ _ h => h) (Or.inl ⟨by rfl, ?_⟩) hHeld ?_
        rotate_left
        · intro W hSw; obtain ⟨hb, hcell⟩ := hSw; go_simp; try with_reducible rfl
        refine wpAnyH_ready (rs := [1, 11]) (by kernel_rfl) (by simp) ?_
        refine AllReadyH.cons rfl (fun K hK => ?_) (AllReadyH.cons rfl (fun K hK => ?_) AllReadyH.nil)
        · go_simp
          have bwx : Below w.heap.size w ((w.alloc (.cells #[] 52)).drew) := ((Below.refl _ w).alloc (Nat.le_refl _) _).drew
          refine hK.out _ _ ⟨bwx, by rw [bwx.cell (World.block_lt_of_cell? _ _ c0)]; exact c0⟩ (fun hHeld1 => ?_)
          clear hK K hHeld
          refine wpAnyH_ready (rs := [8, 11]) (by kernel_rfl) (by simp) ?_
          refine AllReadyH.cons rfl (fun K hK => ?_) (AllReadyH.cons rfl (fun K hK => ?_) AllReadyH.nil)
          · have bwc := bwx
            refine step_append_files rfl (.tmp 35) (.tmp 41) rfl w.heap.size _ 0 [] rfl ⟨rfl, .inr ⟨w.heap.size, 0, #[], rfl, Nat.le_refl _, heap_alloc_new _ _, Nat.le_refl _, Nat.zero_le _, rfl, rfl⟩⟩ _ _ _ X1 rfl HL1.out (fun _ => rfl) (fun j u hu => absurd (List.getElem?_eq_some_iff.1 hu).1 (by rw [fcells_length, HL1.out]; omega)) (by omega) (by first | exact bwc.size | simp) ?_
            intro v8 w8 own8 gr8 wh8
            rw [List.nil_append] at own8
            have bw8 : Below w.heap.size w w8 := bwx.grown gr8 bwx.size fun j hj => by injection hj with hj; exact Nat.le_of_eq hj
            refine hK.out _ _ ⟨bw8, by rw [bw8.cell (World.block_lt_of_cell? _ _ c0)]; exact c0⟩ (fun hHeld2 => ?_)
            clear hK K hHeld1 bwc
            refine wpAnyH_ready (rs := [11]) (by kernel_rfl) (by simp) ?_
            refine AllReadyH.cons rfl (fun K hK => ?_) AllReadyH.nil
            go_simp
            have bwc : Below w.heap.size w (w8.alloc (.cells #[.string s, .string ⟨#[]⟩, .int .i64 0] 52)) := bw8.alloc bw8.size _
            refine hK.out _ _ ⟨bwc, by rw [bwc.cell (World.block_lt_of_cell? _ _ c0)]; exact c0⟩ (fun hHeldC => ?_)
            clear hK K hHeld2
            have hown : (w8.alloc (.cells #[.string s, .string ⟨#[]⟩, .int .i64 0] 52)).ownsRow w.heap.size 52 3 v8 0 (fcells X1) := row_far (by simpa using own8) fun b hb hge => heap_alloc_old _ _ (row_in own8 hb)
            have hb11 : ∀ j u, (fcells [⟨s.data.toList, [], 0⟩])[j]? = some u → (w8.alloc (.cells #[.string s, .string ⟨#[]⟩, .int .i64 0] 52)).cell? ((⟨w8.heap.size, 0, none⟩ : Addr).add j) = some u := new_cells (heap_alloc_new _ _)
            refine wpAnyH_ready (rs := [12]) (by kernel_rfl) (by simp) ?_
            refine AllReadyH.cons rfl (fun K hK => ?_) AllReadyH.nil
            refine step_append_files rfl (.tmp 42) (.tmp 45) rfl w.heap.size v8 0 _ rfl hown _ 1 1 [⟨s.data.toList, [], 0⟩] rfl rfl (fun e => nomatch e) (fun j u hu => ⟨_, rfl, hb11 j u hu⟩) (by omega) bwc.size ?_
            intro v12 w12 own12 gr12 wh12
            have bwd : Below w.heap.size w w12 := bwc.grown gr12 bwc.size fun j hj => by
              rcases (hown.2) with ⟨z, _⟩ | ⟨g', cap', cur', z, hg', _⟩
              · rw [z] at hj; cases hj
              · rw [z] at hj; injection hj with hj; rw [← hj]; exact hg'
            refine hK.out _ _ ⟨bwd, by rw [bwd.cell (World.block_lt_of_cell? _ _ c0)]; exact c0⟩ (fun hHeld4 => ?_)
            clear hK K hHeldC
            refine wpAnyH_ready (rs := [19]) (by kernel_rfl) (by simp) ?_
            refine AllReadyH.cons rfl (fun K hK => ?_) AllReadyH.nil
            refine step_append_files rfl (.tmp 46) (.tmp 52) rfl w.heap.size v12 (0 + 1) _ rfl own12 _ _ _ X2 rfl HL2.out (fun _ => rfl) (fun j u hu => absurd (List.getElem?_eq_some_iff.1 hu).1 (by rw [fcells_length, HL2.out]; omega)) (by omega) bwd.size ?_
            intro v19 w19 own19 gr19 wh19
            have bwe : Below w.heap.size w w19 := bwd.grown gr19 bwd.size fun j hj => by
              rcases (own12.2) with ⟨z, _⟩ | ⟨g', cap', cur', z, hg', _⟩
              · rw [z] at hj; cases hj
              · rw [z] at hj; injection hj with hj; rw [← hj]; exact hg'
            refine hK.out _ _ ⟨bwe, by rw [bwe.cell (World.block_lt_of_cell? _ _ c0)]; exact c0⟩ (fun hHeld5 => ?_)
            clear hK K hHeld4
            refine wpAnyH_take (i := 20) (v := ?_) rfl (by kernel_rfl) (by kernel_rfl) (by kernel_rfl) (fun _ _ _ h => h) (Or.inl ⟨by rfl, ?_⟩) hHeld5 ?_
            rotate_left
            · intro W hSw; obtain ⟨hb, hcell⟩ := hSw; go_simp; try with_reducible rfl
            refine wpAnyH_take (i := 21) (v := ?_) rfl (by kernel_rfl) (by kernel_rfl) (by kernel_rfl) (fun _ _ _ h => h) (Or.inl ⟨by rfl, ?_⟩) hHeld5 ?_
            rotate_left
            · intro W hSw; obtain ⟨hb, hcell⟩ := hSw; go_simp; try with_reducible rfl
            refine wpAnyH_done (by kernel_rfl) ?_ _
            obtain ⟨A9, c9, rfl⟩ := row_slice own19
            have cz := hHeld5.2
            have fz : w19.frozen? ⟨g, 0, none⟩ = false := by rw [bwe.frozen (World.block_lt_of_cell? _ _ c0)]; exact f0
            refine behind_normal (wpOp_step rfl (fun K hK => ?_))
            go_simp
            refine hK _ _ ?_
            go_wp2_with fail
            all_goals go_ret
            all_goals rw [List.append_assoc, ← fcells_append, ← fcells_append, List.singleton_append, HX1.out, HX2.out] at own19
            all_goals refine ⟨0, rfl, by rw [HN.out]; omega, fun j hj hjk => absurd hjk (Nat.not_lt_zero j), HST.out, _, w19, rfl, bwe, ?_⟩
            all_goals have e1 : 0 + 1 + 0 = M.l.length + 1 := by have := HN.out; omega
            all_goals rw [e1] at own19
            all_goals (have e3 : M.l.length = 0 := HN.out)
            all_goals rw [e3] at own19 ⊢
            all_goals exact own19
          · go_simp
            have bwc : Below w.heap.size w (((w.alloc (.cells #[] 52)).alloc (.cells #[.string s, .string ⟨#[]⟩, .int .i64 0] 52)).drew) := (((Below.refl _ w).alloc (Nat.le_refl _) _).alloc (by simp) _).drew
            refine hK.out _ _ ⟨bwc, by rw [bwc.cell (World.block_lt_of_cell? _ _ c0)]; exact c0⟩ (fun hHeld2 => ?_)
            clear hK K hHeld1
            refine wpAnyH_ready (rs := [8]) (by kernel_rfl) (by simp) ?_
            refine AllReadyH.cons rfl (fun K hK => ?_) AllReadyH.nil
            refine step_append_files rfl (.tmp 35) (.tmp 41) rfl w.heap.size _ 0 [] rfl ⟨rfl, .inr ⟨w.heap.size, 0, #[], rfl, Nat.le_refl _, (heap_alloc_old _ _ (by simp)).trans (heap_alloc_new _ _), Nat.le_refl _, Nat.zero_le _, rfl, rfl⟩⟩ _ _ _ X1 rfl HL1.out (fun _ => rfl) (fun j u hu => absurd (List.getElem?_eq_some_iff.1 hu).1 (by rw [fcells_length, HL1.out]; omega)) (by omega) (by first | exact bwc.size | simp) ?_
            intro v8 w8 own8 gr8 wh8
            rw [List.nil_append] at own8
            have hx11 := (gr8.block (w.heap.size + 1) (by simp) (fun z => by injection z with z; exact absurd (show w.heap.size + 1 = w.heap.size from z) (by omega))).trans (heap_alloc2_new w _ _)
            have bw8 : Below w.heap.size w w8 := bwc.grown gr8 bwc.size fun j hj => by injection hj with hj; exact Nat.le_of_eq hj
            clear bwc
            have bwc := bw8
            refine hK.out _ _ ⟨bwc, by rw [bwc.cell (World.block_lt_of_cell? _ _ c0)]; exact c0⟩ (fun hHeldC => ?_)
            clear hK K hHeld2
            have hown : w8.ownsRow w.heap.size 52 3 v8 0 (fcells X1) := by simpa using own8
            have hb11 : ∀ j u, (fcells [⟨s.data.toList, [], 0⟩])[j]? = some u → w8.cell? ((⟨w.heap.size + 1, 0, none⟩ : Addr).add j) = some u := new_cells hx11
            refine wpAnyH_ready (rs := [12]) (by kernel_rfl) (by simp) ?_
            refine AllReadyH.cons rfl (fun K hK => ?_) AllReadyH.nil
            refine step_append_files rfl (.tmp 42) (.tmp 45) rfl w.heap.size v8 0 _ rfl hown _ 1 1 [⟨s.data.toList, [], 0⟩] rfl rfl (fun e => nomatch e) (fun j u hu => ⟨_, rfl, hb11 j u hu⟩) (by omega) bwc.size ?_
            intro v12 w12 own12 gr12 wh12
            have bwd : Below w.heap.size w w12 := bwc.grown gr12 bwc.size fun j hj => by
              rcases (hown.2) with ⟨z, _⟩ | ⟨g', cap', cur', z, hg', _⟩
              · rw [z] at hj; cases hj
              · rw [z] at hj; injection hj with hj; rw [← hj]; exact hg'
            refine hK.out _ _ ⟨bwd, by rw [bwd.cell (World.block_lt_of_cell? _ _ c0)]; exact c0⟩ (fun hHeld4 => ?_)
            clear hK K hHeldC
            refine wpAnyH_ready (rs := [19]) (by kernel_rfl) (by simp) ?_
            refine AllReadyH.cons rfl (fun K hK => ?_) AllReadyH.nil
            refine step_append_files rfl (.tmp 46) (.tmp 52) rfl w.heap.size v12 (0 + 1) _ rfl own12 _ _ _ X2 rfl HL2.out (fun _ => rfl) (fun j u hu => absurd (List.getElem?_eq_some_iff.1 hu).1 (by rw [fcells_length, HL2.out]; omega)) (by omega) bwd.size ?_
            intro v19 w19 own19 gr19 wh19
            have bwe : Below w.heap.size w w19 := bwd.grown gr19 bwd.size fun j hj => by
              rcases (own12.2) with ⟨z, _⟩ | ⟨g', cap', cur', z, hg', _⟩
              · rw [z] at hj; cases hj
              · rw [z] at hj; injection hj with hj; rw [← hj]; exact hg'
            refine hK.out _ _ ⟨bwe, by rw [bwe.cell (World.block_lt_of_cell? _ _ c0)]; exact c0⟩ (fun hHeld5 => ?_)
            clear hK K hHeld4
            refine wpAnyH_take (i := 20) (v := ?_) rfl (by kernel_rfl) (by kernel_rfl) (by kernel_rfl) (fun _ _ _ h => h) (Or.inl ⟨by rfl, ?_⟩) hHeld5 ?_
            rotate_left
            · intro W hSw; obtain ⟨hb, hcell⟩ := hSw; go_simp; try with_reducible rfl
            refine wpAnyH_take (i := 21) (v := ?_) rfl (by kernel_rfl) (by kernel_rfl) (by kernel_rfl) (fun _ _ _ h => h) (Or.inl ⟨by rfl, ?_⟩) hHeld5 ?_
            rotate_left
            · intro W hSw; obtain ⟨hb, hcell⟩ := hSw; go_simp; try with_reducible rfl
            refine wpAnyH_done (by kernel_rfl) ?_ _
            obtain ⟨A9, c9, rfl⟩ := row_slice own19
            have cz := hHeld5.2
            have fz : w19.frozen? ⟨g, 0, none⟩ = false := by rw [bwe.frozen (World.block_lt_of_cell? _ _ c0)]; exact f0
            refine behind_normal (wpOp_step rfl (fun K hK => ?_))
            go_simp
            refine hK _ _ ?_
            go_wp2_with fail
            all_goals go_ret
            all_goals rw [List.append_assoc, ← fcells_append, ← fcells_append, List.singleton_append, HX1.out, HX2.out] at own19
            all_goals refine ⟨0, rfl, by rw [HN.out]; omega, fun j hj hjk => absurd hjk (Nat.not_lt_zero j), HST.out, _, w19, rfl, bwe, ?_⟩
            all_goals have e1 : 0 + 1 + 0 = M.l.length + 1 := by have := HN.out; omega
            all_goals rw [e1] at own19
            all_goals (have e3 : M.l.length = 0 := HN.out)
            all_goals rw [e3] at own19 ⊢
            all_goals exact own19
        · go_simp
          have bwx : Below w.heap.size w ((w.alloc (.cells #[.string s, .string ⟨#[]⟩, .int .i64 0] 52)).drew) := ((Below.refl _ w).alloc (Nat.le_refl _) _).drew
          refine hK.out _ _ ⟨bwx, by rw [bwx.cell (World.block_lt_of_cell? _ _ c0)]; exact c0⟩ (fun hHeld1 => ?_)
          clear hK K hHeld
          refine wpAnyH_ready (rs := [1]) (by kernel_rfl) (by simp) ?_
          refine AllReadyH.cons rfl (fun K hK => ?_) AllReadyH.nil
          go_simp
          have bwc : Below w.heap.size w (((w.alloc (.cells #[.string s, .string ⟨#[]⟩, .int .i64 0] 52)).alloc (.cells #[] 52)).drew) := (((Below.refl _ w).alloc (Nat.le_refl _) _).alloc (by simp) _).drew
          refine hK.out _ _ ⟨bwc, by rw [bwc.cell (World.block_lt_of_cell? _ _ c0)]; exact c0⟩ (fun hHeld2 => ?_)
          clear hK K hHeld1
          refine wpAnyH_ready (rs := [8]) (by kernel_rfl) (by simp) ?_
          refine AllReadyH.cons rfl (fun K hK => ?_) AllReadyH.nil
          refine step_append_files rfl (.tmp 35) (.tmp 41) rfl w.heap.size _ 0 [] rfl ⟨rfl, .inr ⟨(w.heap.size + 1), 0, #[], rfl, Nat.le_succ _, heap_alloc2_new w _ _, Nat.le_refl _, Nat.zero_le _, rfl, rfl⟩⟩ _ _ _ X1 rfl HL1.out (fun _ => rfl) (fun j u hu => absurd (List.getElem?_eq_some_iff.1 hu).1 (by rw [fcells_length, HL1.out]; omega)) (by omega) (by first | exact bwc.size | simp) ?_
          intro v8 w8 own8 gr8 wh8
          rw [List.nil_append] at own8
          have hx11 := (gr8.block w.heap.size (by simp; omega) (fun z => by injection z with z; exact absurd (show w.heap.size = w.heap.size + 1 from z) (by omega))).trans ((heap_alloc_old (w.alloc (.cells #[.string s, .string ⟨#[]⟩, .int .i64 0] 52)) (.cells #[] 52) (by simp)).trans (heap_alloc_new w _))
          have bw8 : Below w.heap.size w w8 := bwc.grown gr8 bwc.size fun j hj => by injection hj with hj; rw [← hj]; exact Nat.le_succ _
          clear bwc
          have bwc := bw8
          refine hK.out _ _ ⟨bwc, by rw [bwc.cell (World.block_lt_of_cell? _ _ c0)]; exact c0⟩ (fun hHeldC => ?_)
          clear hK K hHeld2
          have hown : w8.ownsRow w.heap.size 52 3 v8 0 (fcells X1) := by simpa using own8
          have hb11 : ∀ j u, (fcells [⟨s.data.toList, [], 0⟩])[j]? = some u → w8.cell? ((⟨w.heap.size, 0, none⟩ : Addr).add j) = some u := new_cells hx11
          refine wpAnyH_ready (rs := [12]) (by kernel_rfl) (by simp) ?_
          refine AllReadyH.cons rfl (fun K hK => ?_) AllReadyH.nil
          refine step_append_files rfl (.tmp 42) (.tmp 45) rfl w.heap.size v8 0 _ rfl hown _ 1 1 [⟨s.data.toList, [], 0⟩] rfl rfl (fun e => nomatch e) (fun j u hu => ⟨_, rfl, hb11 j u hu⟩) (by omega) bwc.size ?_
          intro v12 w12 own12 gr12 wh12
          have bwd : Below w.heap.size w w12 := bwc.grown gr12 bwc.size fun j hj => by
            rcases (hown.2) with ⟨z, _⟩ | ⟨g', cap', cur', z, hg', _⟩
            · rw [z] at hj; cases hj
            · rw [z] at hj; injection hj with hj; rw [← hj]; exact hg'
          refine hK.out _ _ ⟨bwd, by rw [bwd.cell (World.block_lt_of_cell? _ _ c0)]; exact c0⟩ (fun hHeld4 => ?_)
          clear hK K hHeldC
          refine wpAnyH_ready (rs := [19]) (by kernel_rfl) (by simp) ?_
          refine AllReadyH.cons rfl (fun K hK => ?_) AllReadyH.nil
          refine step_append_files rfl (.tmp 46) (.tmp 52) rfl w.heap.size v12 (0 + 1) _ rfl own12 _ _ _ X2 rfl HL2.out (fun _ => rfl) (fun j u hu => absurd (List.getElem?_eq_some_iff.1 hu).1 (by rw [fcells_length, HL2.out]; omega)) (by omega) bwd.size ?_
          intro v19 w19 own19 gr19 wh19
          have bwe : Below w.heap.size w w19 := bwd.grown gr19 bwd.size fun j hj => by
            rcases (own12.2) with ⟨z, _⟩ | ⟨g', cap', cur', z, hg', _⟩
            · rw [z] at hj; cases hj
            · rw [z] at hj; injection hj with hj; rw [← hj]; exact hg'
          refine hK.out _ _ ⟨bwe, by rw [bwe.cell (World.block_lt_of_cell? _ _ c0)]; exact c0⟩ (fun hHeld5 => ?_)
          clear hK K hHeld4
          refine wpAnyH_take (i := 20) (v := ?_) rfl (by kernel_rfl) (by kernel_rfl) (by kernel_rfl) (fun _ _ _ h => h) (Or.inl ⟨by rfl, ?_⟩) hHeld5 ?_
          rotate_left
          · intro W hSw; obtain ⟨hb, hcell⟩ := hSw; go_simp; try with_reducible rfl
          refine wpAnyH_take (i := 21) (v := ?_) rfl (by kernel_rfl) (by kernel_rfl) (by kernel_rfl) (fun _ _ _ h => h) (Or.inl ⟨by rfl, ?_⟩) hHeld5 ?_
          rotate_left
          · intro W hSw; obtain ⟨hb, hcell⟩ := hSw; go_simp; try with_reducible rfl
          refine wpAnyH_done (by kernel_rfl) ?_ _
          obtain ⟨A9, c9, rfl⟩ := row_slice own19
          have cz := hHeld5.2
          have fz : w19.frozen? ⟨g, 0, none⟩ = false := by rw [bwe.frozen (World.block_lt_of_cell? _ _ c0)]; exact f0
          refine behind_normal (wpOp_step rfl (fun K hK => ?_))
          go_simp
          refine hK _ _ ?_
          go_wp2_with fail
          all_goals go_ret
          all_goals rw [List.append_assoc, ← fcells_append, ← fcells_append, List.singleton_append, HX1.out, HX2.out] at own19
          all_goals refine ⟨0, rfl, by rw [HN.out]; omega, fun j hj hjk => absurd hjk (Nat.not_lt_zero j), HST.out, _, w19, rfl, bwe, ?_⟩
          all_goals have e1 : 0 + 1 + 0 = M.l.length + 1 := by have := HN.out; omega
          all_goals rw [e1] at own19
          all_goals (have e3 : M.l.length = 0 := HN.out)
          all_goals rw [e3] at own19 ⊢
          all_goals exact own19
      · have k2 : (n : Int) ≤ (k : Int) := by omega
        go_wp2_with fail
        refine wp_region_tail_list (S := fun W => Below w.heap.size w W ∧ W.cell? ⟨g, 0, none⟩ = some (.slice (some ⟨h, 0, none⟩) n c)) (by simp) (by kernel_rfl) (by kernel_rfl) ⟨(Below.refl _ _).drew, c0⟩ (fun hHeld => ?_)
        simp only [List.dropLast_cons_cons, List.dropLast_singleton, List.getLast_cons_cons, List.getLast_singleton, List.length_cons, List.length_nil, Nat.reduceAdd]
        refine wpAnyH_take (i := 0) (v := ?_) rfl (by kernel_rfl) (by kernel_rfl) (by kernel_rfl) (fun _ _ _ h => h) (Or.inl ⟨by rfl, ?_⟩) hHeld ?_
        rotate_left
        · intro W hSw; obtain ⟨hb, hcell⟩ := hSw; go_simp; try with_reducible rfl
        refine wpAnyH_take (i := 2) (v := ?_) rfl (by kernel_rfl) (by kernel_rfl) (by kernel_rfl) (fun _ _ _ h => h) (Or.inl ⟨by rfl, ?_⟩) hHeld ?_
        rotate_left
        · intro W hSw; obtain ⟨hb, hcell⟩ := hSw; go_simp; try with_reducible rfl
        refine wpAnyH_take (i := 3) (v := ?_) rfl (by kernel_rfl) (by kernel_rfl) (by kernel_rfl) (fun _ _ _ h => h) (Or.inl ⟨by rfl, ?_⟩) hHeld ?_
        rotate_left
        · intro W hSw; obtain ⟨hb, hcell⟩ := hSw; go_simp; try with_reducible rfl
        refine wpAnyH_take (i := 4) (v := ?_) rfl (by kernel_rfl) (by kernel_rfl) (by kernel_rfl) (fun _ _ _ h => h) (Or.inl ⟨by rfl, ?_⟩) hHeld ?_
        rotate_left
        · intro W hSw; obtain ⟨hb, hcell⟩ := hSw; go_simp; try with_reducible rfl
        refine wpAnyH_take (i := 5) (v := ?_) rfl (by kernel_rfl) (by kernel_rfl) (by kernel_rfl) (fun _ _ _ h => h) (Or.inl ⟨by rfl, ?_⟩) hHeld ?_
        rotate_left
        · intro W hSw; obtain ⟨hb, hcell⟩ := hSw; go_simp; try with_reducible rfl
        refine wpAnyH_take (i := 6) (v := ?_) rfl (by kernel_rfl) (by kernel_rfl) (by kernel_rfl) (fun _ _ _ h => h) (Or.inl ⟨by rfl, ?_⟩) hHeld ?_
        rotate_left
        · intro W hSw; obtain ⟨hb, hcell⟩ := hSw; go_simp; try with_reducible rfl
        refine wpAnyH_take (i := 7) (v := ?_) rfl (by kernel_rfl) (by kernel_rfl) (by kernel_rfl) (fun _ _ _ h => h) (Or.inl ⟨by rfl, ?_⟩) hHeld ?_
        rotate_left
        · intro W hSw; obtain ⟨hb, hcell⟩ := hSw; go_simp; try with_reducible rfl
        refine wpAnyH_take (i := 9) (v := ?_) rfl (by kernel_rfl) (by kernel_rfl) (by kernel_rfl) (fun _ _ _ h => h) (Or.inl ⟨by rfl, ?_⟩) hHeld ?_
        rotate_left
        · intro W hSw; obtain ⟨hb, hcell⟩ := hSw; go_simp; try with_reducible rfl
        refine wpAnyH_take (i := 10) (v := ?_) rfl (by kernel_rfl) (by kernel_rfl) (by kernel_rfl) (fun _ _ _ h => h) (Or.inl ⟨by rfl, ?_⟩) hHeld ?_
        rotate_left
        · intro W hSw; obtain ⟨hb, hcell⟩ := hSw; go_simp; try with_reducible rfl
        refine wpAnyH_take (i := 13) (v := ?_) rfl (by kernel_rfl) (by kernel_rfl) (by kernel_rfl) (fun _ _ _ h => h) (Or.inl ⟨by rfl, ?_⟩) hHeld ?_
        rotate_left
        · intro W hSw; obtain ⟨hb, hcell⟩ := hSw; go_simp; try with_reducible rfl
        refine wpAnyH_take (i := 14) (v := ?_) rfl (by kernel_rfl) (by kernel_rfl) (by kernel_rfl) (fun _ _ _ h => h) (Or.inl ⟨by rfl, ?_⟩) hHeld ?_
        rotate_left
        · intro W hSw; obtain ⟨hb, hcell⟩ := hSw; go_simp; try with_reducible rfl
        refine wpAnyH_take (i := 15) (v := ?_) rfl (by kernel_rfl) (by kernel_rfl) (by kernel_rfl) (fun _ _ _ h => h) (Or.inl ⟨by rfl, ?_⟩) hHeld ?_
        rotate_left
        · intro W hSw; obtain ⟨hb, hcell⟩ := hSw; go_simp; try with_reducible rfl
        refine wpAnyH_take (i := 16) (v := ?_) rfl (by kernel_rfl) (by kernel_rfl) (by kernel_rfl) (fun _ _ _ h => h) (Or.inl ⟨by rfl, ?_⟩) hHeld ?_
        rotate_left
        · intro W hSw; obtain ⟨hb, hcell⟩ := hSw; go_simp; try with_reducible rfl
        refine wpAnyH_take (i := 17) (v := ?_) rfl (by kernel_rfl) (by kernel_rfl) (by kernel_rfl) (fun _ _ _ h => h) (Or.inl ⟨by rfl, ?_⟩) hHeld ?_
        rotate_left
        · intro W hSw; obtain ⟨hb, hcell⟩ := hSw; go_simp; try with_reducible rfl
        refine wpAnyH_take (i := 18) (v := ?_) rfl (by kernel_rfl) (by kernel_rfl) (by kernel_rfl) (fun _ _ _ h => h) (Or.inl ⟨by rfl, ?_⟩) hHeld ?_
        rotate_left
        · intro W hSw; obtain ⟨hb, hcell⟩ := hSw; go_simp; try with_reducible rfl
        refine wpAnyH_ready (rs := [1, 11]) (by kernel_rfl) (by simp) ?_
        refine AllReadyH.cons rfl (fun K hK => ?_) (AllReadyH.cons rfl (fun K hK => ?_) AllReadyH.nil)
        · go_simp
          have bwx : Below w.heap.size w ((w.alloc (.cells #[] 52)).drew) := ((Below.refl _ w).alloc (Nat.le_refl _) _).drew
          refine hK.out _ _ ⟨bwx, by rw [bwx.cell (World.block_lt_of_cell? _ _ c0)]; exact c0⟩ (fun hHeld1 => ?_)
          clear hK K hHeld
          refine wpAnyH_ready (rs := [8, 11]) (by kernel_rfl) (by simp) ?_
          refine AllReadyH.cons rfl (fun K hK => ?_) (AllReadyH.cons rfl (fun K hK => ?_) AllReadyH.nil)
          · have bwc := bwx
            refine step_append_files rfl (.tmp 35) (.tmp 41) rfl w.heap.size _ 0 [] rfl ⟨rfl, .inr ⟨w.heap.size, 0, #[], rfl, Nat.le_refl _, heap_alloc_new _ _, Nat.le_refl _, Nat.zero_le _, rfl, rfl⟩⟩ _ _ _ X1 rfl HL1.out (fun e => nomatch e) (fun j u hu => ⟨_, rfl, HNW1.out bwc j u hu⟩) (by omega) (by first | exact bwc.size | simp) ?_
            intro v8 w8 own8 gr8 wh8
            rw [List.nil_append] at own8
            have bw8 : Below w.heap.size w w8 := bwx.grown gr8 bwx.size fun j hj => by injection hj with hj; exact Nat.le_of_eq hj
            refine hK.out _ _ ⟨bw8, by rw [bw8.cell (World.block_lt_of_cell? _ _ c0)]; exact c0⟩ (fun hHeld2 => ?_)
            clear hK K hHeld1 bwc
            refine wpAnyH_ready (rs := [11]) (by kernel_rfl) (by simp) ?_
            refine AllReadyH.cons rfl (fun K hK => ?_) AllReadyH.nil
            go_simp
            have bwc : Below w.heap.size w (w8.alloc (.cells #[.string s, .string ⟨#[]⟩, .int .i64 0] 52)) := bw8.alloc bw8.size _
            refine hK.out _ _ ⟨bwc, by rw [bwc.cell (World.block_lt_of_cell? _ _ c0)]; exact c0⟩ (fun hHeldC => ?_)
            clear hK K hHeld2
            have hown : (w8.alloc (.cells #[.string s, .string ⟨#[]⟩, .int .i64 0] 52)).ownsRow w.heap.size 52 3 v8 k (fcells X1) := row_far (by simpa using own8) fun b hb hge => heap_alloc_old _ _ (row_in own8 hb)
            have hb11 : ∀ j u, (fcells [⟨s.data.toList, [], 0⟩])[j]? = some u → (w8.alloc (.cells #[.string s, .string ⟨#[]⟩, .int .i64 0] 52)).cell? ((⟨w8.heap.size, 0, none⟩ : Addr).add j) = some u := new_cells (heap_alloc_new _ _)
            refine wpAnyH_ready (rs := [12]) (by kernel_rfl) (by simp) ?_
            refine AllReadyH.cons rfl (fun K hK => ?_) AllReadyH.nil
            refine step_append_files rfl (.tmp 42) (.tmp 45) rfl w.heap.size v8 k _ rfl hown _ 1 1 [⟨s.data.toList, [], 0⟩] rfl rfl (fun e => nomatch e) (fun j u hu => ⟨_, rfl, hb11 j u hu⟩) (by omega) bwc.size ?_
            intro v12 w12 own12 gr12 wh12
            have bwd : Below w.heap.size w w12 := bwc.grown gr12 bwc.size fun j hj => by
              rcases (hown.2) with ⟨z, _⟩ | ⟨g', cap', cur', z, hg', _⟩
              · rw [z] at hj; cases hj
              · rw [z] at hj; injection hj with hj; rw [← hj]; exact hg'
            refine hK.out _ _ ⟨bwd, by rw [bwd.cell (World.block_lt_of_cell? _ _ c0)]; exact c0⟩ (fun hHeld4 => ?_)
            clear hK K hHeldC
            refine wpAnyH_ready (rs := [19]) (by kernel_rfl) (by simp) ?_
            refine AllReadyH.cons rfl (fun K hK => ?_) AllReadyH.nil
            refine step_append_files rfl (.tmp 46) (.tmp 52) rfl w.heap.size v12 (k + 1) _ rfl own12 _ _ _ X2 rfl (by rw [HL2.out]; omega) (fun e => by split at e <;> cases e) (fun j u hu => ⟨⟨h, k * 3, none⟩, if_neg (fun z => by have h1 := (List.getElem?_eq_some_iff.1 hu).1; rw [fcells_length, HL2.out] at h1; omega), HNW2.out bwd j u hu⟩) (by omega) bwd.size ?_
            intro v19 w19 own19 gr19 wh19
            have bwe : Below w.heap.size w w19 := bwd.grown gr19 bwd.size fun j hj => by
              rcases (own12.2) with ⟨z, _⟩ | ⟨g', cap', cur', z, hg', _⟩
              · rw [z] at hj; cases hj
              · rw [z] at hj; injection hj with hj; rw [← hj]; exact hg'
            refine hK.out _ _ ⟨bwe, by rw [bwe.cell (World.block_lt_of_cell? _ _ c0)]; exact c0⟩ (fun hHeld5 => ?_)
            clear hK K hHeld4
            refine wpAnyH_take (i := 20) (v := ?_) rfl (by kernel_rfl) (by kernel_rfl) (by kernel_rfl) (fun _ _ _ h => h) (Or.inl ⟨by rfl, ?_⟩) hHeld5 ?_
            rotate_left
            · intro W hSw; obtain ⟨hb, hcell⟩ := hSw; go_simp; try with_reducible rfl
            refine wpAnyH_take (i := 21) (v := ?_) rfl (by kernel_rfl) (by kernel_rfl) (by kernel_rfl) (fun _ _ _ h => h) (Or.inl ⟨by rfl, ?_⟩) hHeld5 ?_
            rotate_left
            · intro W hSw; obtain ⟨hb, hcell⟩ := hSw; go_simp; try with_reducible rfl
            refine wpAnyH_done (by kernel_rfl) ?_ _
            obtain ⟨A9, c9, rfl⟩ := row_slice own19
            have cz := hHeld5.2
            have fz : w19.frozen? ⟨g, 0, none⟩ = false := by rw [bwe.frozen (World.block_lt_of_cell? _ _ c0)]; exact f0
            refine behind_normal (wpOp_step rfl (fun K hK => ?_))
            go_simp
            refine hK _ _ ?_
            go_wp2_with fail
            all_goals go_ret
            all_goals rw [List.append_assoc, ← fcells_append, ← fcells_append, List.singleton_append, HX1.out, HX2.out] at own19
            all_goals refine ⟨k, rfl, by rw [HN.out]; omega, fun j hj hjk => HB2.out j hj hjk, HST.out, _, w19, rfl, bwe, ?_⟩
            all_goals have e1 : k + 1 + 0 = M.l.length + 1 := by have := HN.out; omega
            all_goals rw [e1] at own19
            all_goals (try rw [e1])
            all_goals exact own19
          · go_simp
            have bwc : Below w.heap.size w (((w.alloc (.cells #[] 52)).alloc (.cells #[.string s, .string ⟨#[]⟩, .int .i64 0] 52)).drew) := (((Below.refl _ w).alloc (Nat.le_refl _) _).alloc (by simp) _).drew
            refine hK.out _ _ ⟨bwc, by rw [bwc.cell (World.block_lt_of_cell? _ _ c0)]; exact c0⟩ (fun hHeld2 => ?_)
            clear hK K hHeld1
            refine wpAnyH_ready (rs := [8]) (by kernel_rfl) (by simp) ?_
            refine AllReadyH.cons rfl (fun K hK => ?_) AllReadyH.nil
            refine step_append_files rfl (.tmp 35) (.tmp 41) rfl w.heap.size _ 0 [] rfl ⟨rfl, .inr ⟨w.heap.size, 0, #[], rfl, Nat.le_refl _, (heap_alloc_old _ _ (by simp)).trans (heap_alloc_new _ _), Nat.le_refl _, Nat.zero_le _, rfl, rfl⟩⟩ _ _ _ X1 rfl HL1.out (fun e => nomatch e) (fun j u hu => ⟨_, rfl, HNW1.out bwc j u hu⟩) (by omega) (by first | exact bwc.size | simp) ?_
            intro v8 w8 own8 gr8 wh8
            rw [List.nil_append] at own8
            have hx11 := (gr8.block (w.heap.size + 1) (by simp) (fun z => by injection z with z; exact absurd (show w.heap.size + 1 = w.heap.size from z) (by omega))).trans (heap_alloc2_new w _ _)
            have bw8 : Below w.heap.size w w8 := bwc.grown gr8 bwc.size fun j hj => by injection hj with hj; exact Nat.le_of_eq hj
            clear bwc
            have bwc := bw8
            refine hK.out _ _ ⟨bwc, by rw [bwc.cell (World.block_lt_of_cell? _ _ c0)]; exact c0⟩ (fun hHeldC => ?_)
            clear hK K hHeld2
            have hown : w8.ownsRow w.heap.size 52 3 v8 k (fcells X1) := by simpa using own8
            have hb11 : ∀ j u, (fcells [⟨s.data.toList, [], 0⟩])[j]? = some u → w8.cell? ((⟨w.heap.size + 1, 0, none⟩ : Addr).add j) = some u := new_cells hx11
            refine wpAnyH_ready (rs := [12]) (by kernel_rfl) (by simp) ?_
            refine AllReadyH.cons rfl (fun K hK => ?_) AllReadyH.nil
            refine step_append_files rfl (.tmp 42) (.tmp 45) rfl w.heap.size v8 k _ rfl hown _ 1 1 [⟨s.data.toList, [], 0⟩] rfl rfl (fun e => nomatch e) (fun j u hu => ⟨_, rfl, hb11 j u hu⟩) (by omega) bwc.size ?_
            intro v12 w12 own12 gr12 wh12
            have bwd : Below w.heap.size w w12 := bwc.grown gr12 bwc.size fun j hj => by
              rcases (hown.2) with ⟨z, _⟩ | ⟨g', cap', cur', z, hg', _⟩
              · rw [z] at hj; cases hj
              · rw [z] at hj; injection hj with hj; rw [← hj]; exact hg'
            refine hK.out _ _ ⟨bwd, by rw [bwd.cell (World.block_lt_of_cell? _ _ c0)]; exact c0⟩ (fun hHeld4 => ?_)
            clear hK K hHeldC
            refine wpAnyH_ready (rs := [19]) (by kernel_rfl) (by simp) ?_
            refine AllReadyH.cons rfl (fun K hK => ?_) AllReadyH.nil
            refine step_append_files rfl (.tmp 46) (.tmp 52) rfl w.heap.size v12 (k + 1) _ rfl own12 _ _ _ X2 rfl (by rw [HL2.out]; omega) (fun e => by split at e <;> cases e) (fun j u hu => ⟨⟨h, k * 3, none⟩, if_neg (fun z => by have h1 := (List.getElem?_eq_some_iff.1 hu).1; rw [fcells_length, HL2.out] at h1; omega), HNW2.out bwd j u hu⟩) (by omega) bwd.size ?_
            intro v19 w19 own19 gr19 wh19
            have bwe : Below w.heap.size w w19 := bwd.grown gr19 bwd.size fun j hj => by
              rcases (own12.2) with ⟨z, _⟩ | ⟨g', cap', cur', z, hg', _⟩
              · rw [z] at hj; cases hj
              · rw [z] at hj; injection hj with hj; rw [← hj]; exact hg'
            refine hK.out _ _ ⟨bwe, by rw [bwe.cell (World.block_lt_of_cell? _ _ c0)]; exact c0⟩ (fun hHeld5 => ?_)
            clear hK K hHeld4
            refine wpAnyH_take (i := 20) (v := ?_) rfl (by kernel_rfl) (by kernel_rfl) (by kernel_rfl) (fun _ _ _ h => h) (Or.inl ⟨by rfl, ?_⟩) hHeld5 ?_
            rotate_left
            · intro W hSw; obtain ⟨hb, hcell⟩ := hSw; go_simp; try with_reducible rfl
            refine wpAnyH_take (i := 21) (v := ?_) rfl (by kernel_rfl) (by kernel_rfl) (by kernel_rfl) (fun _ _ _ h => h) (Or.inl ⟨by rfl, ?_⟩) hHeld5 ?_
            rotate_left
            · intro W hSw; obtain ⟨hb, hcell⟩ := hSw; go_simp; try with_reducible rfl
            refine wpAnyH_done (by kernel_rfl) ?_ _
            obtain ⟨A9, c9, rfl⟩ := row_slice own19
            have cz := hHeld5.2
            have fz : w19.frozen? ⟨g, 0, none⟩ = false := by rw [bwe.frozen (World.block_lt_of_cell? _ _ c0)]; exact f0
            refine behind_normal (wpOp_step rfl (fun K hK => ?_))
            go_simp
            refine hK _ _ ?_
            go_wp2_with fail
            all_goals go_ret
            all_goals rw [List.append_assoc, ← fcells_append, ← fcells_append, List.singleton_append, HX1.out, HX2.out] at own19
            all_goals refine ⟨k, rfl, by rw [HN.out]; omega, fun j hj hjk => HB2.out j hj hjk, HST.out, _, w19, rfl, bwe, ?_⟩
            all_goals have e1 : k + 1 + 0 = M.l.length + 1 := by have := HN.out; omega
            all_goals rw [e1] at own19
            all_goals (try rw [e1])
            all_goals exact own19
        · go_simp
          have bwx : Below w.heap.size w ((w.alloc (.cells #[.string s, .string ⟨#[]⟩, .int .i64 0] 52)).drew) := ((Below.refl _ w).alloc (Nat.le_refl _) _).drew
          refine hK.out _ _ ⟨bwx, by rw [bwx.cell (World.block_lt_of_cell? _ _ c0)]; exact c0⟩ (fun hHeld1 => ?_)
          clear hK K hHeld
          refine wpAnyH_ready (rs := [1]) (by kernel_rfl) (by simp) ?_
          refine AllReadyH.cons rfl (fun K hK => ?_) AllReadyH.nil
          go_simp
          have bwc : Below w.heap.size w (((w.alloc (.cells #[.string s, .string ⟨#[]⟩, .int .i64 0] 52)).alloc (.cells #[] 52)).drew) := (((Below.refl _ w).alloc (Nat.le_refl _) _).alloc (by simp) _).drew
          refine hK.out _ _ ⟨bwc, by rw [bwc.cell (World.block_lt_of_cell? _ _ c0)]; exact c0⟩ (fun hHeld2 => ?_)
          clear hK K hHeld1
          refine wpAnyH_ready (rs := [8]) (by kernel_rfl) (by simp) ?_
          refine AllReadyH.cons rfl (fun K hK => ?_) AllReadyH.nil
          refine step_append_files rfl (.tmp 35) (.tmp 41) rfl w.heap.size _ 0 [] rfl ⟨rfl, .inr ⟨(w.heap.size + 1), 0, #[], rfl, Nat.le_succ _, heap_alloc2_new w _ _, Nat.le_refl _, Nat.zero_le _, rfl, rfl⟩⟩ _ _ _ X1 rfl HL1.out (fun e => nomatch e) (fun j u hu => ⟨_, rfl, HNW1.out bwc j u hu⟩) (by omega) (by first | exact bwc.size | simp) ?_
          intro v8 w8 own8 gr8 wh8
          rw [List.nil_append] at own8
          have hx11 := (gr8.block w.heap.size (by simp; omega) (fun z => by injection z with z; exact absurd (show w.heap.size = w.heap.size + 1 from z) (by omega))).trans ((heap_alloc_old (w.alloc (.cells #[.string s, .string ⟨#[]⟩, .int .i64 0] 52)) (.cells #[] 52) (by simp)).trans (heap_alloc_new w _))
          have bw8 : Below w.heap.size w w8 := bwc.grown gr8 bwc.size fun j hj => by injection hj with hj; rw [← hj]; exact Nat.le_succ _
          clear bwc
          have bwc := bw8
          refine hK.out _ _ ⟨bwc, by rw [bwc.cell (World.block_lt_of_cell? _ _ c0)]; exact c0⟩ (fun hHeldC => ?_)
          clear hK K hHeld2
          have hown : w8.ownsRow w.heap.size 52 3 v8 k (fcells X1) := by simpa using own8
          have hb11 : ∀ j u, (fcells [⟨s.data.toList, [], 0⟩])[j]? = some u → w8.cell? ((⟨w.heap.size, 0, none⟩ : Addr).add j) = some u := new_cells hx11
          refine wpAnyH_ready (rs := [12]) (by kernel_rfl) (by simp) ?_
          refine AllReadyH.cons rfl (fun K hK => ?_) AllReadyH.nil
          refine step_append_files rfl (.tmp 42) (.tmp 45) rfl w.heap.size v8 k _ rfl hown _ 1 1 [⟨s.data.toList, [], 0⟩] rfl rfl (fun e => nomatch e) (fun j u hu => ⟨_, rfl, hb11 j u hu⟩) (by omega) bwc.size ?_
          intro v12 w12 own12 gr12 wh12
          have bwd : Below w.heap.size w w12 := bwc.grown gr12 bwc.size fun j hj => by
            rcases (hown.2) with ⟨z, _⟩ | ⟨g', cap', cur', z, hg', _⟩
            · rw [z] at hj; cases hj
            · rw [z] at hj; injection hj with hj; rw [← hj]; exact hg'
          refine hK.out _ _ ⟨bwd, by rw [bwd.cell (World.block_lt_of_cell? _ _ c0)]; exact c0⟩ (fun hHeld4 => ?_)
          clear hK K hHeldC
          refine wpAnyH_ready (rs := [19]) (by kernel_rfl) (by simp) ?_
          refine AllReadyH.cons rfl (fun K hK => ?_) AllReadyH.nil
          refine step_append_files rfl (.tmp 46) (.tmp 52) rfl w.heap.size v12 (k + 1) _ rfl own12 _ _ _ X2 rfl (by rw [HL2.out]; omega) (fun e => by split at e <;> cases e) (fun j u hu => ⟨⟨h, k * 3, none⟩, if_neg (fun z => by have h1 := (List.getElem?_eq_some_iff.1 hu).1; rw [fcells_length, HL2.out] at h1; omega), HNW2.out bwd j u hu⟩) (by omega) bwd.size ?_
          intro v19 w19 own19 gr19 wh19
          have bwe : Below w.heap.size w w19 := bwd.grown gr19 bwd.size fun j hj => by
            rcases (own12.2) with ⟨z, _⟩ | ⟨g', cap', cur', z, hg', _⟩
            · rw [z] at hj; cases hj
            · rw [z] at hj; injection hj with hj; rw [← hj]; exact hg'
          refine hK.out _ _ ⟨bwe, by rw [bwe.cell (World.block_lt_of_cell? _ _ c0)]; exact c0⟩ (fun hHeld5 => ?_)
          clear hK K hHeld4
          refine wpAnyH_take (i := 20) (v := ?_) rfl (by kernel_rfl) (by kernel_rfl) (by kernel_rfl) (fun _ _ _ h => h) (Or.inl ⟨by rfl, ?_⟩) hHeld5 ?_
          rotate_left
          · intro W hSw; obtain ⟨hb, hcell⟩ := hSw; go_simp; try with_reducible rfl
          refine wpAnyH_take (i := 21) (v := ?_) rfl (by kernel_rfl) (by kernel_rfl) (by kernel_rfl) (fun _ _ _ h => h) (Or.inl ⟨by rfl, ?_⟩) hHeld5 ?_
          rotate_left
          · intro W hSw; obtain ⟨hb, hcell⟩ := hSw; go_simp; try with_reducible rfl
          refine wpAnyH_done (by kernel_rfl) ?_ _
          obtain ⟨A9, c9, rfl⟩ := row_slice own19
          have cz := hHeld5.2
          have fz : w19.frozen? ⟨g, 0, none⟩ = false := by rw [bwe.frozen (World.block_lt_of_cell? _ _ c0)]; exact f0
          refine behind_normal (wpOp_step rfl (fun K hK => ?_))
          go_simp
          refine hK _ _ ?_
          go_wp2_with fail
          all_goals go_ret
          all_goals rw [List.append_assoc, ← fcells_append, ← fcells_append, List.singleton_append, HX1.out, HX2.out] at own19
          all_goals refine ⟨k, rfl, by rw [HN.out]; omega, fun j hj hjk => HB2.out j hj hjk, HST.out, _, w19, rfl, bwe, ?_⟩
          all_goals have e1 : k + 1 + 0 = M.l.length + 1 := by have := HN.out; omega
          all_goals rw [e1] at own19
          all_goals (try rw [e1])
          all_goals exact own19
      · have k2 : (k : Int) < (n : Int) := by omega
        go_wp2_with fail
        refine wp_region_tail_list (S := fun W => Below w.heap.size w W ∧ W.cell? ⟨g, 0, none⟩ = some (.slice (some ⟨h, 0, none⟩) n c)) (by simp) (by kernel_rfl) (by kernel_rfl) ⟨(Below.refl _ _).drew, c0⟩ (fun hHeld => ?_)
        simp only [List.dropLast_cons_cons, List.dropLast_singleton, List.getLast_cons_cons, List.getLast_singleton, List.length_cons, List.length_nil, Nat.reduceAdd]
        refine wpAnyH_take (i := 0) (v := ?_) rfl (by kernel_rfl) (by kernel_rfl) (by kernel_rfl) (fun _ _ _ h => h) (Or.inl ⟨by rfl, ?_⟩) hHeld ?_
        rotate_left
        · intro W hSw; obtain ⟨hb, hcell⟩ := hSw; go_simp; try with_reducible rfl
        refine wpAnyH_take (i := 2) (v := ?_) rfl (by kernel_rfl) (by kernel_rfl) (by kernel_rfl) (fun _ _ _ h => h) (Or.inl ⟨by rfl, ?_⟩) hHeld ?_
        rotate_left
        · intro W hSw; obtain ⟨hb, hcell⟩ := hSw; go_simp; try with_reducible rfl
        refine wpAnyH_take (i := 3) (v := ?_) rfl (by kernel_rfl) (by kernel_rfl) (by kernel_rfl) (fun _ _ _ h => h) (Or.inl ⟨by rfl, ?_⟩) hHeld ?_
        rotate_left
        · intro W hSw; obtain ⟨hb, hcell⟩ := hSw; go_simp; try with_reducible rfl
        refine wpAnyH_take (i := 4) (v := ?_) rfl (by kernel_rfl) (by kernel_rfl) (by kernel_rfl) (fun _ _ _ h => h) (Or.inl ⟨by rfl, ?_⟩) hHeld ?_
        rotate_left
        · intro W hSw; obtain ⟨hb, hcell⟩ := hSw; go_simp; try with_reducible rfl
        refine wpAnyH_take (i := 5) (v := ?_) rfl (by kernel_rfl) (by kernel_rfl) (by kernel_rfl) (fun _ _ _ h => h) (Or.inl ⟨by rfl, ?_⟩) hHeld ?_
        rotate_left
        · intro W hSw; obtain ⟨hb, hcell⟩ := hSw; go_simp; try with_reducible rfl
        refine wpAnyH_take (i := 6) (v := ?_) rfl (by kernel_rfl) (by kernel_rfl) (by kernel_rfl) (fun _ _ _ h => h) (Or.inl ⟨by rfl, ?_⟩) hHeld ?_
        rotate_left
        · intro W hSw; obtain ⟨hb, hcell⟩ := hSw; go_simp; try with_reducible rfl
        refine wpAnyH_take (i := 7) (v := ?_) rfl (by kernel_rfl) (by kernel_rfl) (by kernel_rfl) (fun _ _ _ h => h) (Or.inl ⟨by rfl, ?_⟩) hHeld ?_
        rotate_left
        · intro W hSw; obtain ⟨hb, hcell⟩ := hSw; go_simp; try with_reducible rfl
        refine wpAnyH_take (i := 9) (v := ?_) rfl (by kernel_rfl) (by kernel_rfl) (by kernel_rfl) (fun _ _ _ h => h) (Or.inl ⟨by rfl, ?_⟩) hHeld ?_
        rotate_left
        · intro W hSw; obtain ⟨hb, hcell⟩ := hSw; go_simp; try with_reducible rfl
        refine wpAnyH_take (i := 10) (v := ?_) rfl (by kernel_rfl) (by kernel_rfl) (by kernel_rfl) (fun _ _ _ h => h) (Or.inl ⟨by rfl, ?_⟩) hHeld ?_
        rotate_left
        · intro W hSw; obtain ⟨hb, hcell⟩ := hSw; go_simp; try with_reducible rfl
        refine wpAnyH_take (i := 13) (v := ?_) rfl (by kernel_rfl) (by kernel_rfl) (by kernel_rfl) (fun _ _ _ h => h) (Or.inl ⟨by rfl, ?_⟩) hHeld ?_
        rotate_left
        · intro W hSw; obtain ⟨hb, hcell⟩ := hSw; go_simp; try with_reducible rfl
        refine wpAnyH_take (i := 14) (v := ?_) rfl (by kernel_rfl) (by kernel_rfl) (by kernel_rfl) (fun _ _ _ h => h) (Or.inl ⟨by rfl, ?_⟩) hHeld ?_
        rotate_left
        · intro W hSw; obtain ⟨hb, hcell⟩ := hSw; go_simp; try with_reducible rfl
        refine wpAnyH_take (i := 15) (v := ?_) rfl (by kernel_rfl) (by kernel_rfl) (by kernel_rfl) (fun _ _ _ h => h) (Or.inl ⟨by rfl, ?_⟩) hHeld ?_
        rotate_left
        · intro W hSw; obtain ⟨hb, hcell⟩ := hSw; go_simp; try with_reducible rfl
        refine wpAnyH_take (i := 16) (v := ?_) rfl (by kernel_rfl) (by kernel_rfl) (by kernel_rfl) (fun _ _ _ h => h) (Or.inl ⟨by rfl, ?_⟩) hHeld ?_
        rotate_left
        · intro W hSw; obtain ⟨hb, hcell⟩ := hSw; go_simp; try with_reducible rfl
        refine wpAnyH_take (i := 17) (v := ?_) rfl (by kernel_rfl) (by kernel_rfl) (by kernel_rfl) (fun _ _ _ h => h) (Or.inl ⟨by rfl, ?_⟩) hHeld ?_
        rotate_left
        · intro W hSw; obtain ⟨hb, hcell⟩ := hSw; go_simp; try with_reducible rfl
        refine wpAnyH_take (i := 18) (v := ?_) rfl (by kernel_rfl) (by kernel_rfl) (by kernel_rfl) (fun _ _ _ h => h) (Or.inl ⟨by rfl, ?_⟩) hHeld ?_
        rotate_left
        · intro W hSw; obtain ⟨hb, hcell⟩ := hSw; go_simp; try with_reducible rfl
        refine wpAnyH_ready (rs := [1, 11]) (by kernel_rfl) (by simp) ?_
        refine AllReadyH.cons rfl (fun K hK => ?_) (AllReadyH.cons rfl (fun K hK => ?_) AllReadyH.nil)
        · go_simp
          have bwx : Below w.heap.size w ((w.alloc (.cells #[] 52)).drew) := ((Below.refl _ w).alloc (Nat.le_refl _) _).drew
          refine hK.out _ _ ⟨bwx, by rw [bwx.cell (World.block_lt_of_cell? _ _ c0)]; exact c0⟩ (fun hHeld1 => ?_)
          clear hK K hHeld
          refine wpAnyH_ready (rs := [8, 11]) (by kernel_rfl) (by simp) ?_
          refine AllReadyH.cons rfl (fun K hK => ?_) (AllReadyH.cons rfl (fun K hK => ?_) AllReadyH.nil)
          · have bwc := bwx
            refine step_append_files rfl (.tmp 35) (.tmp 41) rfl w.heap.size _ 0 [] rfl ⟨rfl, .inr ⟨w.heap.size, 0, #[], rfl, Nat.le_refl _, heap_alloc_new _ _, Nat.le_refl _, Nat.zero_le _, rfl, rfl⟩⟩ _ _ _ X1 rfl HL1.out (fun e => nomatch e) (fun j u hu => ⟨_, rfl, HNW1.out bwc j u hu⟩) (by omega) (by first | exact bwc.size | simp) ?_
            intro v8 w8 own8 gr8 wh8
            rw [List.nil_append] at own8
            have bw8 : Below w.heap.size w w8 := bwx.grown gr8 bwx.size fun j hj => by injection hj with hj; exact Nat.le_of_eq hj
            refine hK.out _ _ ⟨bw8, by rw [bw8.cell (World.block_lt_of_cell? _ _ c0)]; exact c0⟩ (fun hHeld2 => ?_)
            clear hK K hHeld1 bwc
            refine wpAnyH_ready (rs := [11]) (by kernel_rfl) (by simp) ?_
            refine AllReadyH.cons rfl (fun K hK => ?_) AllReadyH.nil
            go_simp
            have bwc : Below w.heap.size w (w8.alloc (.cells #[.string s, .string ⟨#[]⟩, .int .i64 0] 52)) := bw8.alloc bw8.size _
            refine hK.out _ _ ⟨bwc, by rw [bwc.cell (World.block_lt_of_cell? _ _ c0)]; exact c0⟩ (fun hHeldC => ?_)
            clear hK K hHeld2
            have hown : (w8.alloc (.cells #[.string s, .string ⟨#[]⟩, .int .i64 0] 52)).ownsRow w.heap.size 52 3 v8 k (fcells X1) := row_far (by simpa using own8) fun b hb hge => heap_alloc_old _ _ (row_in own8 hb)
            have hb11 : ∀ j u, (fcells [⟨s.data.toList, [], 0⟩])[j]? = some u → (w8.alloc (.cells #[.string s, .string ⟨#[]⟩, .int .i64 0] 52)).cell? ((⟨w8.heap.size, 0, none⟩ : Addr).add j) = some u := new_cells (heap_alloc_new _ _)
            refine wpAnyH_ready (rs := [12]) (by kernel_rfl) (by simp) ?_
            refine AllReadyH.cons rfl (fun K hK => ?_) AllReadyH.nil
            refine step_append_files rfl (.tmp 42) (.tmp 45) rfl w.heap.size v8 k _ rfl hown _ 1 1 [⟨s.data.toList, [], 0⟩] rfl rfl (fun e => nomatch e) (fun j u hu => ⟨_, rfl, hb11 j u hu⟩) (by omega) bwc.size ?_
            intro v12 w12 own12 gr12 wh12
            have bwd : Below w.heap.size w w12 := bwc.grown gr12 bwc.size fun j hj => by
              rcases (hown.2) with ⟨z, _⟩ | ⟨g', cap', cur', z, hg', _⟩
              · rw [z] at hj; cases hj
              · rw [z] at hj; injection hj with hj; rw [← hj]; exact hg'
            refine hK.out _ _ ⟨bwd, by rw [bwd.cell (World.block_lt_of_cell? _ _ c0)]; exact c0⟩ (fun hHeld4 => ?_)
            clear hK K hHeldC
            refine wpAnyH_ready (rs := [19]) (by kernel_rfl) (by simp) ?_
            refine AllReadyH.cons rfl (fun K hK => ?_) AllReadyH.nil
            refine step_append_files rfl (.tmp 46) (.tmp 52) rfl w.heap.size v12 (k + 1) _ rfl own12 _ _ _ X2 rfl HL2.out (fun e => by split at e <;> cases e) (fun j u hu => ⟨⟨h, k * 3, none⟩, if_neg (fun z => by have h1 := (List.getElem?_eq_some_iff.1 hu).1; rw [fcells_length, HL2.out] at h1; omega), HNW2.out bwd j u hu⟩) (by omega) bwd.size ?_
            intro v19 w19 own19 gr19 wh19
            have bwe : Below w.heap.size w w19 := bwd.grown gr19 bwd.size fun j hj => by
              rcases (own12.2) with ⟨z, _⟩ | ⟨g', cap', cur', z, hg', _⟩
              · rw [z] at hj; cases hj
              · rw [z] at hj; injection hj with hj; rw [← hj]; exact hg'
            refine hK.out _ _ ⟨bwe, by rw [bwe.cell (World.block_lt_of_cell? _ _ c0)]; exact c0⟩ (fun hHeld5 => ?_)
            clear hK K hHeld4
            refine wpAnyH_take (i := 20) (v := ?_) rfl (by kernel_rfl) (by kernel_rfl) (by kernel_rfl) (fun _ _ _ h => h) (Or.inl ⟨by rfl, ?_⟩) hHeld5 ?_
            rotate_left
            · intro W hSw; obtain ⟨hb, hcell⟩ := hSw; go_simp; try with_reducible rfl
            refine wpAnyH_take (i := 21) (v := ?_) rfl (by kernel_rfl) (by kernel_rfl) (by kernel_rfl) (fun _ _ _ h => h) (Or.inl ⟨by rfl, ?_⟩) hHeld5 ?_
            rotate_left
            · intro W hSw; obtain ⟨hb, hcell⟩ := hSw; go_simp; try with_reducible rfl
            refine wpAnyH_done (by kernel_rfl) ?_ _
            obtain ⟨A9, c9, rfl⟩ := row_slice own19
            have cz := hHeld5.2
            have fz : w19.frozen? ⟨g, 0, none⟩ = false := by rw [bwe.frozen (World.block_lt_of_cell? _ _ c0)]; exact f0
            refine behind_normal (wpOp_step rfl (fun K hK => ?_))
            go_simp
            refine hK _ _ ?_
            go_wp2_with fail
            all_goals go_ret
            all_goals rw [List.append_assoc, ← fcells_append, ← fcells_append, List.singleton_append, HX1.out, HX2.out] at own19
            all_goals refine ⟨k, rfl, by rw [HN.out]; omega, fun j hj hjk => HB2.out j hj hjk, HST.out, _, w19, rfl, bwe, ?_⟩
            all_goals have e1 : k + 1 + (n - k) = M.l.length + 1 := by have := HN.out; omega
            all_goals rw [e1] at own19
            all_goals (try rw [e1])
            all_goals exact own19
          · go_simp
            have bwc : Below w.heap.size w (((w.alloc (.cells #[] 52)).alloc (.cells #[.string s, .string ⟨#[]⟩, .int .i64 0] 52)).drew) := (((Below.refl _ w).alloc (Nat.le_refl _) _).alloc (by simp) _).drew
            refine hK.out _ _ ⟨bwc, by rw [bwc.cell (World.block_lt_of_cell? _ _ c0)]; exact c0⟩ (fun hHeld2 => ?_)
            clear hK K hHeld1
            refine wpAnyH_ready (rs := [8]) (by kernel_rfl) (by simp) ?_
            refine AllReadyH.cons rfl (fun K hK => ?_) AllReadyH.nil
            refine step_append_files rfl (.tmp 35) (.tmp 41) rfl w.heap.size _ 0 [] rfl ⟨rfl, .inr ⟨w.heap.size, 0, #[], rfl, Nat.le_refl _, (heap_alloc_old _ _ (by simp)).trans (heap_alloc_new _ _), Nat.le_refl _, Nat.zero_le _, rfl, rfl⟩⟩ _ _ _ X1 rfl HL1.out (fun e => nomatch e) (fun j u hu => ⟨_, rfl, HNW1.out bwc j u hu⟩) (by omega) (by first | exact bwc.size | simp) ?_
            intro v8 w8 own8 gr8 wh8
            rw [List.nil_append] at own8
            have hx11 := (gr8.block (w.heap.size + 1) (by simp) (fun z => by injection z with z; exact absurd (show w.heap.size + 1 = w.heap.size from z) (by omega))).trans (heap_alloc2_new w _ _)
            have bw8 : Below w.heap.size w w8 := bwc.grown gr8 bwc.size fun j hj => by injection hj with hj; exact Nat.le_of_eq hj
            clear bwc
            have bwc := bw8
            refine hK.out _ _ ⟨bwc, by rw [bwc.cell (World.block_lt_of_cell? _ _ c0)]; exact c0⟩ (fun hHeldC => ?_)
            clear hK K hHeld2
            have hown : w8.ownsRow w.heap.size 52 3 v8 k (fcells X1) := by simpa using own8
            have hb11 : ∀ j u, (fcells [⟨s.data.toList, [], 0⟩])[j]? = some u → w8.cell? ((⟨w.heap.size + 1, 0, none⟩ : Addr).add j) = some u := new_cells hx11
            refine wpAnyH_ready (rs := [12]) (by kernel_rfl) (by simp) ?_
            refine AllReadyH.cons rfl (fun K hK => ?_) AllReadyH.nil
            refine step_append_files rfl (.tmp 42) (.tmp 45) rfl w.heap.size v8 k _ rfl hown _ 1 1 [⟨s.data.toList, [], 0⟩] rfl rfl (fun e => nomatch e) (fun j u hu => ⟨_, rfl, hb11 j u hu⟩) (by omega) bwc.size ?_
            intro v12 w12 own12 gr12 wh12
            have bwd : Below w.heap.size w w12 := bwc.grown gr12 bwc.size fun j hj => by
              rcases (hown.2) with ⟨z, _⟩ | ⟨g', cap', cur', z, hg', _⟩
              · rw [z] at hj; cases hj
              · rw [z] at hj; injection hj with hj; rw [← hj]; exact hg'
            refine hK.out _ _ ⟨bwd, by rw [bwd.cell (World.block_lt_of_cell? _ _ c0)]; exact c0⟩ (fun hHeld4 => ?_)
            clear hK K hHeldC
            refine wpAnyH_ready (rs := [19]) (by kernel_rfl) (by simp) ?_
            refine AllReadyH.cons rfl (fun K hK => ?_) AllReadyH.nil
            refine step_append_files rfl (.tmp 46) (.tmp 52) rfl w.heap.size v12 (k + 1) _ rfl own12 _ _ _ X2 rfl HL2.out (fun e => by split at e <;> cases e) (fun j u hu => ⟨⟨h, k * 3, none⟩, if_neg (fun z => by have h1 := (List.getElem?_eq_some_iff.1 hu).1; rw [fcells_length, HL2.out] at h1; omega), HNW2.out bwd j u hu⟩) (by omega) bwd.size ?_
            intro v19 w19 own19 gr19 wh19
            have bwe : Below w.heap.size w w19 := bwd.grown gr19 bwd.size fun j hj => by
              rcases (own12.2) with ⟨z, _⟩ | ⟨g', cap', cur', z, hg', _⟩
              · rw [z] at hj; cases hj
              · rw [z] at hj; injection hj with hj; rw [← hj]; exact hg'
            refine hK.out _ _ ⟨bwe, by rw [bwe.cell (World.block_lt_of_cell? _ _ c0)]; exact c0⟩ (fun hHeld5 => ?_)
            clear hK K hHeld4
            refine wpAnyH_take (i := 20) (v := ?_) rfl (by kernel_rfl) (by kernel_rfl) (by kernel_rfl) (fun _ _ _ h => h) (Or.inl ⟨by rfl, ?_⟩) hHeld5 ?_
            rotate_left
            · intro W hSw; obtain ⟨hb, hcell⟩ := hSw; go_simp; try with_reducible rfl
            refine wpAnyH_take (i := 21) (v := ?_) rfl (by kernel_rfl) (by kernel_rfl) (by kernel_rfl) (fun _ _ _ h => h) (Or.inl ⟨by rfl, ?_⟩) hHeld5 ?_
            rotate_left
            · intro W hSw; obtain ⟨hb, hcell⟩ := hSw; go_simp; try with_reducible rfl
            refine wpAnyH_done (by kernel_rfl) ?_ _
            obtain ⟨A9, c9, rfl⟩ := row_slice own19
            have cz := hHeld5.2
            have fz : w19.frozen? ⟨g, 0, none⟩ = false := by rw [bwe.frozen (World.block_lt_of_cell? _ _ c0)]; exact f0
            refine behind_normal (wpOp_step rfl (fun K hK => ?_))
            go_simp
            refine hK _ _ ?_
            go_wp2_with fail
            all_goals go_ret
            all_goals rw [List.append_assoc, ← fcells_append, ← fcells_append, List.singleton_append, HX1.out, HX2.out] at own19
            all_goals refine ⟨k, rfl, by rw [HN.out]; omega, fun j hj hjk => HB2.out j hj hjk, HST.out, _, w19, rfl, bwe, ?_⟩
            all_goals have e1 : k + 1 + (n - k) = M.l.length + 1 := by have := HN.out; omega
            all_goals rw [e1] at own19
            all_goals (try rw [e1])
            all_goals exact own19
        · go_simp
          have bwx : Below w.heap.size w ((w.alloc (.cells #[.string s, .string ⟨#[]⟩, .int .i64 0] 52)).drew) := ((Below.refl _ w).alloc (Nat.le_refl _) _).drew
          refine hK.out _ _ ⟨bwx, by rw [bwx.cell (World.block_lt_of_cell? _ _ c0)]; exact c0⟩ (fun hHeld1 => ?_)
          clear hK K hHeld
          refine wpAnyH_ready (rs := [1]) (by kernel_rfl) (by simp) ?_
          refine AllReadyH.cons rfl (fun K hK => ?_) AllReadyH.nil
          go_simp
          have bwc : Below w.heap.size w (((w.alloc (.cells #[.string s, .string ⟨#[]⟩, .int .i64 0] 52)).alloc (.cells #[] 52)).drew) := (((Below.refl _ w).alloc (Nat.le_refl _) _).alloc (by simp) _).drew
          refine hK.out _ _ ⟨bwc, by rw [bwc.cell (World.block_lt_of_cell? _ _ c0)]; exact c0⟩ (fun hHeld2 => ?_)
          clear hK K hHeld1
          refine wpAnyH_ready (rs := [8]) (by kernel_rfl) (by simp) ?_
          refine AllReadyH.cons rfl (fun K hK => ?_) AllReadyH.nil
          refine step_append_files rfl (.tmp 35) (.tmp 41) rfl w.heap.size _ 0 [] rfl ⟨rfl, .inr ⟨(w.heap.size + 1), 0, #[], rfl, Nat.le_succ _, heap_alloc2_new w _ _, Nat.le_refl _, Nat.zero_le _, rfl, rfl⟩⟩ _ _ _ X1 rfl HL1.out (fun e => nomatch e) (fun j u hu => ⟨_, rfl, HNW1.out bwc j u hu⟩) (by omega) (by first | exact bwc.size | simp) ?_
          intro v8 w8 own8 gr8 wh8
          rw [List.nil_append] at own8
          have hx11 := (gr8.block w.heap.size (by simp; omega) (fun z => by injection z with z; exact absurd (show w.heap.size = w.heap.size + 1 from z) (by omega))).trans ((heap_alloc_old (w.alloc (.cells #[.string s, .string ⟨#[]⟩, .int .i64 0] 52)) (.cells #[] 52) (by simp)).trans (heap_alloc_new w _))
          have bw8 : Below w.heap.size w w8 := bwc.grown gr8 bwc.size fun j hj => by injection hj with hj; rw [← hj]; exact Nat.le_succ _
          clear bwc
          have bwc := bw8
          refine hK.out _ _ ⟨bwc, by rw [bwc.cell (World.block_lt_of_cell? _ _ c0)]; exact c0⟩ (fun hHeldC => ?_)
          clear hK K hHeld2
          have hown : w8.ownsRow w.heap.size 52 3 v8 k (fcells X1) := by simpa using own8
          have hb11 : ∀ j u, (fcells [⟨s.data.toList, [], 0⟩])[j]? = some u → w8.cell? ((⟨w.heap.size, 0, none⟩ : Addr).add j) = some u := new_cells hx11
          refine wpAnyH_ready (rs := [12]) (by kernel_rfl) (by simp) ?_
          refine AllReadyH.cons rfl (fun K hK => ?_) AllReadyH.nil
          refine step_append_files rfl (.tmp 42) (.tmp 45) rfl w.heap.size v8 k _ rfl hown _ 1 1 [⟨s.data.toList, [], 0⟩] rfl rfl (fun e => nomatch e) (fun j u hu => ⟨_, rfl, hb11 j u hu⟩) (by omega) bwc.size ?_
          intro v12 w12 own12 gr12 wh12
          have bwd : Below w.heap.size w w12 := bwc.grown gr12 bwc.size fun j hj => by
            rcases (hown.2) with ⟨z, _⟩ | ⟨g', cap', cur', z, hg', _⟩
            · rw [z] at hj; cases hj
            · rw [z] at hj; injection hj with hj; rw [← hj]; exact hg'
          refine hK.out _ _ ⟨bwd, by rw [bwd.cell (World.block_lt_of_cell? _ _ c0)]; exact c0⟩ (fun hHeld4 => ?_)
          clear hK K hHeldC
          refine wpAnyH_ready (rs := [19]) (by kernel_rfl) (by simp) ?_
          refine AllReadyH.cons rfl (fun K hK => ?_) AllReadyH.nil
          refine step_append_files rfl (.tmp 46) (.tmp 52) rfl w.heap.size v12 (k + 1) _ rfl own12 _ _ _ X2 rfl HL2.out (fun e => by split at e <;> cases e) (fun j u hu => ⟨⟨h, k * 3, none⟩, if_neg (fun z => by have h1 := (List.getElem?_eq_some_iff.1 hu).1; rw [fcells_length, HL2.out] at h1; omega), HNW2.out bwd j u hu⟩) (by omega) bwd.size ?_
          intro v19 w19 own19 gr19 wh19
          have bwe : Below w.heap.size w w19 := bwd.grown gr19 bwd.size fun j hj => by
            rcases (own12.2) with ⟨z, _⟩ | ⟨g', cap', cur', z, hg', _⟩
            · rw [z] at hj; cases hj
            · rw [z] at hj; injection hj with hj; rw [← hj]; exact hg'
          refine hK.out _ _ ⟨bwe, by rw [bwe.cell (World.block_lt_of_cell? _ _ c0)]; exact c0⟩ (fun hHeld5 => ?_)
          clear hK K hHeld4
          refine wpAnyH_take (i := 20) (v := ?_) rfl (by kernel_rfl) (by kernel_rfl) (by kernel_rfl) (fun _ _ _ h => h) (Or.inl ⟨by rfl, ?_⟩) hHeld5 ?_
          rotate_left
          · intro W hSw; obtain ⟨hb, hcell⟩ := hSw; go_simp; try with_reducible rfl
          refine wpAnyH_take (i := 21) (v := ?_) rfl (by kernel_rfl) (by kernel_rfl) (by kernel_rfl) (fun _ _ _ h => h) (Or.inl ⟨by rfl, ?_⟩) hHeld5 ?_
          rotate_left
          · intro W hSw; obtain ⟨hb, hcell⟩ := hSw; go_simp; try with_reducible rfl
          refine wpAnyH_done (by kernel_rfl) ?_ _
          obtain ⟨A9, c9, rfl⟩ := row_slice own19
          have cz := hHeld5.2
          have fz : w19.frozen? ⟨g, 0, none⟩ = false := by rw [bwe.frozen (World.block_lt_of_cell? _ _ c0)]; exact f0
          refine behind_normal (wpOp_step rfl (fun K hK => ?_))
          go_simp
          refine hK _ _ ?_
          go_wp2_with fail
          all_goals go_ret
          all_goals rw [List.append_assoc, ← fcells_append, ← fcells_append, List.singleton_append, HX1.out, HX2.out] at own19
          all_goals refine ⟨k, rfl, by rw [HN.out]; omega, fun j hj hjk => HB2.out j hj hjk, HST.out, _, w19, rfl, bwe, ?_⟩
          all_goals have e1 : k + 1 + (n - k) = M.l.length + 1 := by have := HN.out; omega
          all_goals rw [e1] at own19
          all_goals (try rw [e1])
          all_goals exact own19
end Go.Proofs.Ythclaolmmlgalaa
