/- The walk of the law TablePlays: both tables, operation by operation, answer the same; at the end they tell the same names. -/
import Derived.Test.YtedpanfdkdbblaaTrAct
import Derived.Test.YtedpanfdkdbblaaTOps
import Derived.Deep.RegionHeldLaw
namespace Go.Proofs.Ytedpanfdkdbblaa
open Go.RowKit
set_option linter.unusedVariables false
theorem wpAnyH_weaken {P : Program} {md : Region.Mode} {ops : Array Oper} {Q : Exit → Act → World → Prop} {S S' : World → Prop} (hS : ∀ w, S' w → S w) : ∀ (fuel : Nat) (listed : Array Bool) (a : Act) (w : World), wpAnyH P md ops Q S' fuel listed a w → wpAnyH P md ops Q S fuel listed a w
  | 0, _, _, _, h => h
  | fuel + 1, _, _, _, h => ⟨h.1, fun i hi => wpOp_mono (fun a' w' h' => ⟨hS w' h'.1, wpAnyH_weaken hS fuel _ a' w' h'.2⟩) (h.2 i hi)⟩
theorem act_any (w0 w : World) (p : Addr) (g : Nat) (M : TabM.T) (D : TDuo w0 w p g M M) (k n : Int) (s : ByteArray) (hs : s.size ≤ 20) (hl : M.l.length ≤ 999) :
    Calls Try.prog 9 #[.pointer (some p), .pointer (some ⟨g, 0, none⟩), .agg #[.int .i64 k, .int .i64 n, .string s]] w fun e w' => ∃ M', e = .returned (.bool true) ∧ TDuo w0 w' p g M' M' ∧ M'.l.length ≤ M.l.length + 1 := by
  obtain ⟨m, hm, hk⟩ := kind_five k
  rcases (by omega : m = 0 ∨ m = 1 ∨ m = 2 ∨ m = 3 ∨ m = 4) with rfl | rfl | rfl | rfl | rfl
  · exact act_0 w0 w p g M D k n s hk hs hl
  · exact act_1 w0 w p g M D k n s hk hs hl
  · exact act_2 w0 w p g M D k n s hk hs hl
  · exact act_3 w0 w p g M D k n s hk hs hl
  · exact act_4 w0 w p g M D k n s hk hs hl
/-- Both tables at the beginning. -/
theorem tduo_new {w w1 : World} {F : Nat → Prop} {p : Addr} {m : Nat} (ht : TabRel w1 F p TabM.fresh m) (hF : ∀ k, F k → w.heap.size ≤ k) (hb : Below w.heap.size w w1) :
    TDuo w (w1.alloc (.cells #[.slice none 0 0, .int .i64 0] 28)) p w1.heap.size TabM.fresh TabM.fresh := by
  have al : Below w1.heap.size w1 (w1.alloc (.cells #[.slice none 0 0, .int .i64 0] 28)) := (Below.refl _ w1).alloc (Nat.le_refl _) _
  have hz : (w1.alloc (.cells #[.slice none 0 0, .int .i64 0] 28)).heap.size = w1.heap.size + 1 := by simp
  refine ⟨⟨_, fun k => k = w1.heap.size, m, tab_ok.keep ht.tight al, ⟨⟨.slice none 0 0, by rw [World.cell?_alloc_new]; rfl, World.ownsRow_nil _ _ _ _, fun k e => (nomatch e)⟩, by rw [World.cell?_alloc_new]; rfl, fun i => World.frozen?_alloc_new _ _ _ _, by rw [hz]; omega, rfl, by decide, by decide⟩, fun k hk => ⟨by rw [hz]; have := hk.2; omega, hF k hk.1, fun e => by have := hk.2; omega⟩, fun k e => by rw [hz, e]; have := hb.size; exact ⟨by omega, this⟩⟩, hb.alloc hb.size _⟩
theorem TDuo.ref {w0 w : World} {p : Addr} {g : Nat} {M N : TabM.T} (D : TDuo w0 w p g M N) : ∃ A c, ∀ W, Below w.heap.size w W → W.cell? ⟨g, 0, none⟩ = some (.slice A N.l.length c) ∧ W.cell? ⟨g, 1, none⟩ = some (.int .i64 (N.great : Int)) := by
  obtain ⟨⟨F, G, m, ht, hr, -⟩, -⟩ := D
  obtain ⟨h, A, c, c0, -⟩ := hr.open_
  exact ⟨A, c, fun W hb => ⟨(hb.cell (p := ⟨g, 0, none⟩) hr.lt).trans c0, (hb.cell (p := ⟨g, 1, none⟩) hr.lt).trans hr.great⟩⟩
theorem TDuo.great {w0 w : World} {p : Addr} {g : Nat} {M N : TabM.T} (D : TDuo w0 w p g M N) : N.great ≤ 1000 := by
  obtain ⟨⟨F, G, m, ht, hr, -⟩, -⟩ := D
  exact hr.great9
section
variable {w0 w W : World} {p : Addr} {g : Nat} {M N : TabM.T}
theorem TDuo.len_ (D : TDuo w0 w p g M N) (hb : Below w.heap.size w W) : Calls Try.prog 10 #[.pointer (some p)] W fun e w' => e = .returned (.int .i64 (M.l.length : Int)) ∧ Below W.heap.size W w' := by
  obtain ⟨⟨F, G, m, ht, -⟩, -⟩ := D
  exact (tab_ok.len (tab_ok.keep ht hb)).mono fun e w' ⟨⟨v, he, hv⟩, h⟩ => ⟨by rw [he, hv], h⟩
theorem TDuo.slots_ (D : TDuo w0 w p g M N) (hb : Below w.heap.size w W) : Calls Try.prog 11 #[.pointer (some p)] W fun e w' => (∃ k : Nat, e = .returned (.int .i64 (k : Int)) ∧ k ≤ 16 + 8 * M.great) ∧ Below W.heap.size W w' := by
  obtain ⟨⟨F, G, m, ht, -⟩, -⟩ := D
  exact (tab_ok.slots (tab_ok.keep ht hb)).mono fun e w' ⟨⟨v, he, k, hv, hk⟩, h⟩ => ⟨⟨k, by rw [he, hv], hk⟩, h⟩
theorem TDuo.work_ (D : TDuo w0 w p g M N) (hb : Below w.heap.size w W) : Calls Try.prog 12 #[.pointer (some p)] W fun e w' => (∃ k : Nat, e = .returned (.int .i64 (k : Int)) ∧ k ≤ 8) ∧ Below W.heap.size W w' := by
  obtain ⟨⟨F, G, m, ht, -⟩, -⟩ := D
  exact (tab_ok.work (tab_ok.keep ht hb)).mono fun e w' ⟨⟨v, he, k, hv, hk⟩, h⟩ => ⟨⟨k, by rw [he, hv], hk⟩, h⟩
theorem TDuo.names_ (D : TDuo w0 w p g M N) (hb : Below w.heap.size w W) : Calls Try.prog 14 #[.pointer (some p)] W fun e w' => (∃ v l, e = .returned v ∧ TTexts w' v l ∧ l.Perm (TabM.names M) ∧ l.Pairwise (· ≤ ·)) ∧ Below W.heap.size W w' := by
  obtain ⟨⟨F, G, m, ht, -⟩, -⟩ := D
  exact tab_ok.names (tab_ok.keep ht hb)
theorem TDuo.xnames_ (D : TDuo w0 w p g M N) (hb : Below w.heap.size w W) : Calls Try.prog 15 #[.pointer (some ⟨g, 0, none⟩)] W fun e w' => (∃ v l, e = .returned v ∧ TTexts w' v l ∧ l.Perm (TabM.names N) ∧ l.Pairwise (· ≤ ·)) ∧ Below W.heap.size W w' := by
  obtain ⟨⟨F, G, m, ht, hr, -⟩, -⟩ := D
  refine (rnames_any W w0.heap.size G g N (hr.below (hb.block g hr.lt) (fun k _ hl => hb.block k hl) hb.size)).mono ?_
  rintro e w' ⟨⟨v, l, he, row, hp, hs⟩, h⟩
  obtain ⟨A, c, rfl, sr⟩ := row_reads row
  exact ⟨⟨_, l, he, ⟨A, c, rfl, sr.nil, sr.le, fun i hi => sr.at_ i hi⟩, hp, hs⟩, h⟩
end
theorem TTexts.keep {w w' : World} {v : Value} {l : List (List UInt8)} (h : TTexts w v l) (hb : Below w.heap.size w w') : TTexts w' v l := by
  obtain ⟨A, c, e, hA, hc, hr⟩ := h
  refine ⟨A, c, e, hA, hc, fun i hi => ?_⟩
  obtain ⟨p, ep, hp, hcl⟩ := hr i hi
  exact ⟨p, ep, Nat.lt_of_lt_of_le hp hb.size, by rw [hb.cell (p := p.add i) (by rw [add_block]; exact hp)]; exact hcl⟩
theorem same_sorted {a b c : List (List UInt8)} (h1 : a.Perm c) (h2 : b.Perm c) (s1 : a.Pairwise (· ≤ ·)) (s2 : b.Pairwise (· ≤ ·)) : a = b :=
  List.Perm.eq_of_pairwise (le := fun a b => a ≤ b) (fun a b _ _ h1 h2 => List.le_antisymm h1 h2) s1 s2 (h1.trans h2.symm)
def TPInv (w : World) (p : Addr) (g : Nat) (n : Nat) (i : Value) (wr : World) : Prop :=
  ∃ (j : Nat) (M : TabM.T), j ≤ n ∧ j ≤ 300 ∧ i = .int .i64 j ∧ TDuo w wr p g M M ∧ M.l.length ≤ j
set_option maxRecDepth 20000 in
set_option maxHeartbeats 8000000 in
theorem plays_walk (w : World) (A : Option Addr) (l : List OpV) (n c : Nat) (hn : l.length = n) (hc : n ≤ c) (hrow : OpRow w A l) (hok : ∀ o ∈ l, o.Ok) :
    Calls Try.prog 3 #[.slice A n c] w fun e w' => e = .returned (.bool true) ∧ Below w.heap.size w w' := by
  have n0 : (0 : Int) ≤ (n : Int) := by omega
  have HN := Lib.hid hn
  have HROW := Lib.hid hrow
  have HC := Lib.hid hc
  clear hn hrow hok hc
  go_enter Try.func3, Try.ntmps3
  go_wp2_with fail
  go_at_call 7
  refine (tab_ok.new_ w).mono ?_
  rintro e w1 ⟨p, F, m0, rfl, hd, hF, hb1⟩
  have HD0 := Lib.hid (tduo_new hd hF hb1)
  clear hd hF hb1
  go_wp2_with fail
  go_loopw [5] (fun i wr => TPInv w p w1.heap.size n i wr) (fun i _ => n - (intOf i).toNat)
  case atStart => exact ⟨0, _, Nat.zero_le _, Nat.zero_le _, rfl, HD0.out, Nat.le_refl _⟩
  case round =>
    obtain ⟨j, M, hjn, hj3, rfl, hduo, hml⟩ := hrel
    have HDU := Lib.hid hduo
    have HML := Lib.hid hml
    have HBW := Lib.hid hduo.2
    have j0 : (0 : Int) ≤ (j : Int) := by omega
    clear hduo hml
    by_cases hlt : j < n
    · have j1 : (j : Int) < (n : Int) := by omega
      by_cases h300 : j < 300
      · have j2 : (j : Int) < 300 := by omega
        have hjl : j < l.length := by rw [HN.out]; exact hlt
        obtain ⟨q, rfl, hq, hcell⟩ := HROW.out j hjl
        obtain ⟨o, hoo⟩ : ∃ o, l[j] = o := ⟨_, rfl⟩
        rw [hoo] at hcell
        have hce : ∀ i, i < 3 → wr.cell? ((q.add (j * 3)).add i) = (o.vals)[i]? := fun i hi => (HBW.out.cell (p := (q.add (j * 3)).add i) (by rw [add_block, add_block]; exact hq)).trans (hcell i hi)
        obtain ⟨k, nn, nm⟩ := o
        have e0 : wr.cell? (q.add (j * 3)) = some (.int .i64 k) := by
          have := hce 0 (by omega)
          rw [show (q.add (j * 3)).add 0 = q.add (j * 3) by simp [Addr.add]] at this
          exact this
        have e1 : wr.cell? ⟨(q.add (j * 3)).block, (q.add (j * 3)).off + 1, none⟩ = some (.int .i64 nn) := hce 1 (by omega)
        have e2 : wr.cell? ⟨(q.add (j * 3)).block, (q.add (j * 3)).off + 2, none⟩ = some (.string nm) := hce 2 (by omega)
        have HE : Hid (∀ W : World, Below w.heap.size w W → W.cell? (q.add (j * 3)) = some (.int .i64 k) ∧ W.cell? ⟨(q.add (j * 3)).block, (q.add (j * 3)).off + 1, none⟩ = some (.int .i64 nn) ∧ W.cell? ⟨(q.add (j * 3)).block, (q.add (j * 3)).off + 2, none⟩ = some (.string nm)) := fun W hb => by
          have b1 : (q.add (j * 3)).block < w.heap.size := by rw [add_block]; exact hq
          exact ⟨(hb.cell b1).trans ((HBW.out.cell b1).symm.trans e0), (hb.cell (p := ⟨(q.add (j * 3)).block, (q.add (j * 3)).off + 1, none⟩) b1).trans ((HBW.out.cell (p := ⟨(q.add (j * 3)).block, (q.add (j * 3)).off + 1, none⟩) b1).symm.trans e1), (hb.cell (p := ⟨(q.add (j * 3)).block, (q.add (j * 3)).off + 2, none⟩) b1).trans ((HBW.out.cell (p := ⟨(q.add (j * 3)).block, (q.add (j * 3)).off + 2, none⟩) b1).symm.trans e2)⟩
        clear hce hoo hcell hq
        by_cases hm : 20 < nm.size
        · have m1 : 20 < (nm.size : Int) := by omega
          go_wp2_with fail
          go_at_call 8
          refine (told_any tab_ok _).mono ?_
          rintro e w2 ⟨rfl, hb2⟩
          go_wp2_with fail
          go_ret
          exact ⟨rfl, HBW.out.trans (hb2.mono HBW.out.size)⟩
        · have m1 : (nm.size : Int) ≤ 20 := by omega
          have HNM : Hid (nm.size ≤ 20) := by show nm.size ≤ 20; omega
          have HJ : Hid (j + 1 ≤ n ∧ j + 1 ≤ 300) := ⟨hlt, h300⟩
          have HLT : Hid (M.l.length ≤ 999) := by show M.l.length ≤ 999; have := HML.out; omega
          clear hm
          go_wp2_with fail
          -- REGION 10
          refine wp_region_held_drew (S := fun W => Below w.heap.size w W) (by kernel_rfl) HBW.out.drew (fun hHeld => ?_)
          refine wpAnyH_take (i := 0) (oi := ⟨some 29, .move (.tmp 3), 23, "law.go:55", #[], none⟩) (v := .pointer (some p)) rfl (by kernel_rfl) (by kernel_rfl) (by kernel_rfl) (fun _ _ _ h => h) (Or.inl ⟨by rfl, ?_⟩) hHeld ?_
          · intro W hSw; first | (go_simp; done) | (go_simp; omega) | (go_simp; with_reducible rfl)
          try simp only [Act.put, List.setIfInBounds_toArray, List.set_cons_zero, List.set_cons_succ]
          refine wpAnyH_take (i := 1) (oi := ⟨some 30, .move (.tmp 4), 25, "law.go:55", #[], none⟩) (v := .pointer (some ⟨w1.heap.size, 0, none⟩)) rfl (by kernel_rfl) (by kernel_rfl) (by kernel_rfl) (fun _ _ _ h => h) (Or.inl ⟨by rfl, ?_⟩) hHeld ?_
          · intro W hSw; first | (go_simp; done) | (go_simp; omega) | (go_simp; with_reducible rfl)
          try simp only [Act.put, List.setIfInBounds_toArray, List.set_cons_zero, List.set_cons_succ]
          refine wpAnyH_take (i := 2) (oi := ⟨some 31, .move (.tmp 0), 22, "law.go:55", #[], none⟩) (v := .slice (some q) n c) rfl (by kernel_rfl) (by kernel_rfl) (by kernel_rfl) (fun _ _ _ h => h) (Or.inl ⟨by rfl, ?_⟩) hHeld ?_
          · intro W hSw; first | (go_simp; done) | (go_simp; omega) | (go_simp; with_reducible rfl)
          try simp only [Act.put, List.setIfInBounds_toArray, List.set_cons_zero, List.set_cons_succ]
          refine wpAnyH_take (i := 3) (oi := ⟨some 32, .move (.tmp 5), 3, "law.go:55", #[], none⟩) (v := .int .i64 (j : Int)) rfl (by kernel_rfl) (by kernel_rfl) (by kernel_rfl) (fun _ _ _ h => h) (Or.inl ⟨by rfl, ?_⟩) hHeld ?_
          · intro W hSw; first | (go_simp; done) | (go_simp; omega) | (go_simp; with_reducible rfl)
          try simp only [Act.put, List.setIfInBounds_toArray, List.set_cons_zero, List.set_cons_succ]
          refine wpAnyH_take (i := 4) (oi := ⟨some 33, .indexAddr 22 (.tmp 31) (.tmp 32), 0, "law.go:55", #[⟨2, .data⟩, ⟨3, .data⟩], none⟩) (v := .pointer (some (q.add (j * 3)))) rfl (by kernel_rfl) (by kernel_rfl) (by kernel_rfl) (fun _ _ _ h => h) (Or.inl ⟨by rfl, ?_⟩) hHeld ?_
          · intro W hSw; first | (go_simp; done) | (go_simp; omega) | (go_simp; with_reducible rfl)
          try simp only [Act.put, List.setIfInBounds_toArray, List.set_cons_zero, List.set_cons_succ]
          refine wpAnyH_take (i := 5) (oi := ⟨some 34, .load 30 (.tmp 33), 30, "law.go:55", #[⟨4, .data⟩], none⟩) (v := .agg #[.int .i64 k, .int .i64 nn, .string nm]) rfl (by kernel_rfl) (by kernel_rfl) (by kernel_rfl) (fun _ _ _ h => h) (Or.inl ⟨by rfl, ?_⟩) hHeld ?_
          · intro W hSw; obtain ⟨a0, a1, a2⟩ := HE.out W hSw; first | (go_simp; done) | (go_simp; omega) | (go_simp; with_reducible rfl)
          try simp only [Act.put, List.setIfInBounds_toArray, List.set_cons_zero, List.set_cons_succ]
          refine wpAnyH_ready (rs := [6]) (by kernel_rfl) (by simp) ?_
          refine AllReadyH.cons (o := ⟨some 35, .call { callee := .value (.func 9), args := #[.tmp 29, .tmp 30, .tmp 34], argTypes := #[23, 25, 30] }, 4, "law.go:55", #[⟨0, .data⟩, ⟨1, .data⟩, ⟨5, .data⟩], none⟩) rfl (fun K hK => ?_) AllReadyH.nil
          go_wp2_with (go_at_call 9; refine (act_any w _ p w1.heap.size M (HDU.out.keep ((Below.refl _ wr).drew)) k nn nm HNM.out HLT.out).mono ?_; rintro e w2 ⟨M2, rfl, h2, hl2⟩)
          have H2 := Lib.hid h2
          have HL2 := Lib.hid hl2
          refine hK.out _ _ h2.2 (fun hHeld1 => ?_)
          clear hK K hHeld hHeld1 h2 hl2 e0 e1 e2
          obtain ⟨L, hL⟩ : ∃ L, M2.l.length = L := ⟨_, rfl⟩
          obtain ⟨gr, hgr⟩ : ∃ gr, M2.great = gr := ⟨_, rfl⟩
          obtain ⟨A2, c2, HX⟩ := TDuo.ref H2.out
          rw [hL, hgr] at HX
          have HXX := Lib.hid HX
          have HLL := Lib.hid hL
          have HGR := Lib.hid hgr
          have L9 : (L : Int) ≤ 1000 := by have := HL2.out; have := HLT.out; omega
          have L0 : (0 : Int) ≤ (L : Int) := by omega
          have gr9 : (gr : Int) ≤ 1000 := by have := TDuo.great H2.out; omega
          have gr0 : (0 : Int) ≤ (gr : Int) := by omega
          have gw8 : IntKind.i64.wrap (8 * (gr : Int)) = 8 * (gr : Int) := by rw [IntKind.wrap_i64]; omega
          have gw16 : IntKind.i64.wrap (16 + 8 * (gr : Int)) = 16 + 8 * (gr : Int) := by rw [IntKind.wrap_i64]; omega
          clear HX hL hgr
          refine wpAnyH_weaken (S' := fun W => Below w2.heap.size w2 W) (fun W h => H2.out.2.trans (h.mono H2.out.2.size)) _ _ _ _ ?_
          try simp only [Act.put, List.setIfInBounds_toArray, List.set_cons_zero, List.set_cons_succ]
          have hHeld2 : Below w2.heap.size w2 w2 := Below.refl _ _
          refine wpAnyH_take (i := 7) (oi := ⟨some 36, .unOp .not 4 (.tmp 35), 4, "law.go:55", #[⟨6, .data⟩], none⟩) (v := .bool false) rfl (by kernel_rfl) (by kernel_rfl) (by kernel_rfl) (fun _ _ _ h => h) (Or.inl ⟨by rfl, ?_⟩) hHeld2 ?_
          · intro W hSw; first | (go_simp; done) | (go_simp; omega) | (go_simp; with_reducible rfl)
          try simp only [Act.put, List.setIfInBounds_toArray, List.set_cons_zero, List.set_cons_succ]
          refine wpAnyH_take (i := 8) (oi := ⟨some 37, .move (.tmp 36), 4, "law.go:55", #[⟨7, .data⟩, ⟨6, .chain⟩], none⟩) (v := .bool false) rfl (by kernel_rfl) (by kernel_rfl) (by kernel_rfl) (fun _ _ _ h => h) (Or.inl ⟨by rfl, ?_⟩) hHeld2 ?_
          · intro W hSw; first | (go_simp; done) | (go_simp; omega) | (go_simp; with_reducible rfl)
          try simp only [Act.put, List.setIfInBounds_toArray, List.set_cons_zero, List.set_cons_succ]
          refine wpAnyH_take (i := 9) (oi := ⟨some 38, .move (.tmp 3), 23, "law.go:55", #[⟨8, .guard⟩], some (8, false)⟩) (v := .pointer (some p)) rfl (by kernel_rfl) (by kernel_rfl) (by kernel_rfl) (fun _ _ _ h => h) (Or.inl ⟨by rfl, ?_⟩) hHeld2 ?_
          · intro W hSw; first | (go_simp; done) | (go_simp; omega) | (go_simp; with_reducible rfl)
          try simp only [Act.put, List.setIfInBounds_toArray, List.set_cons_zero, List.set_cons_succ]
          refine wpAnyH_take (i := 11) (oi := ⟨some 40, .move (.tmp 4), 25, "law.go:55", #[⟨8, .guard⟩], some (8, false)⟩) (v := .pointer (some ⟨w1.heap.size, 0, none⟩)) rfl (by kernel_rfl) (by kernel_rfl) (by kernel_rfl) (fun _ _ _ h => h) (Or.inl ⟨by rfl, ?_⟩) hHeld2 ?_
          · intro W hSw; first | (go_simp; done) | (go_simp; omega) | (go_simp; with_reducible rfl)
          try simp only [Act.put, List.setIfInBounds_toArray, List.set_cons_zero, List.set_cons_succ]
          refine wpAnyH_take (i := 12) (oi := ⟨some 41, .nilCheck (.tmp 40), 0, "law.go:55", #[⟨11, .data⟩, ⟨8, .guard⟩], some (8, false)⟩) (v := .pointer (some ⟨w1.heap.size, 0, none⟩)) rfl (by kernel_rfl) (by kernel_rfl) (by kernel_rfl) (fun _ _ _ h => h) (Or.inl ⟨by rfl, ?_⟩) hHeld2 ?_
          · intro W hSw; first | (go_simp; done) | (go_simp; omega) | (go_simp; with_reducible rfl)
          try simp only [Act.put, List.setIfInBounds_toArray, List.set_cons_zero, List.set_cons_succ]
          refine wpAnyH_take (i := 13) (oi := ⟨some 42, .fieldAddr 28 (.tmp 41) 0, 0, "law.go:55", #[⟨12, .data⟩, ⟨8, .guard⟩], some (8, false)⟩) (v := .pointer (some ⟨w1.heap.size, 0, none⟩)) rfl (by kernel_rfl) (by kernel_rfl) (by kernel_rfl) (fun _ _ _ h => h) (Or.inl ⟨by rfl, ?_⟩) hHeld2 ?_
          · intro W hSw; first | (go_simp; done) | (go_simp; omega) | (go_simp; with_reducible rfl)
          try simp only [Act.put, List.setIfInBounds_toArray, List.set_cons_zero, List.set_cons_succ]
          refine wpAnyH_take (i := 14) (oi := ⟨some 43, .load 26 (.tmp 42), 26, "law.go:55", #[⟨13, .data⟩, ⟨8, .guard⟩], some (8, false)⟩) (v := .slice A2 L c2) rfl (by kernel_rfl) (by kernel_rfl) (by kernel_rfl) (fun _ _ _ h => h) (Or.inl ⟨by rfl, ?_⟩) hHeld2 ?_
          · intro W hSw; obtain ⟨a0, a1⟩ := HXX.out W hSw; first | (go_simp; done) | (go_simp; omega) | (go_simp; with_reducible rfl)
          try simp only [Act.put, List.setIfInBounds_toArray, List.set_cons_zero, List.set_cons_succ]
          refine wpAnyH_take (i := 15) (oi := ⟨some 44, .call { callee := .builtin .len, args := #[.tmp 43], argTypes := #[26] }, 3, "law.go:55", #[⟨14, .data⟩, ⟨8, .guard⟩], some (8, false)⟩) (v := .int .i64 (L : Int)) rfl (by kernel_rfl) (by kernel_rfl) (by kernel_rfl) (fun _ _ _ h => h) (Or.inl ⟨by rfl, ?_⟩) hHeld2 ?_
          · intro W hSw; first | (go_simp; done) | (go_simp; omega) | (go_simp; with_reducible rfl)
          try simp only [Act.put, List.setIfInBounds_toArray, List.set_cons_zero, List.set_cons_succ]
          refine wpAnyH_ready (rs := [10]) (by kernel_rfl) (by simp) ?_
          refine AllReadyH.cons (o := ⟨some 39, .call { callee := .value (.func 10), args := #[.tmp 38], argTypes := #[23] }, 3, "law.go:55", #[⟨9, .data⟩, ⟨8, .chain⟩, ⟨8, .guard⟩], some (8, false)⟩) rfl (fun K hK => ?_) AllReadyH.nil
          try rw [if_pos (by rfl)]
          go_wp2_with (go_at_call 10; refine (TDuo.len_ H2.out hHeld2).mono ?_; rintro e w3 ⟨rfl, hb⟩; rw [HLL.out])
          have hHeld3 := below_then hHeld2 hb
          refine hK.out _ _ hHeld3 (fun _ => ?_)
          clear hK K hHeld2 hb
          try simp only [Act.put, List.setIfInBounds_toArray, List.set_cons_zero, List.set_cons_succ]
          refine wpAnyH_take (i := 16) (oi := ⟨some 45, .binOp .neq 3 (.tmp 39) (.tmp 44) 3, 4, "law.go:55", #[⟨10, .data⟩, ⟨15, .data⟩, ⟨8, .guard⟩], some (8, false)⟩) (v := .bool false) rfl (by kernel_rfl) (by kernel_rfl) (by kernel_rfl) (fun _ _ _ h => h) (Or.inl ⟨by rfl, ?_⟩) hHeld3 ?_
          · intro W hSw; first | (go_simp; done) | (go_simp; omega) | (go_simp; with_reducible rfl)
          try simp only [Act.put, List.setIfInBounds_toArray, List.set_cons_zero, List.set_cons_succ]
          refine wpAnyH_take (i := 17) (oi := ⟨some 46, .pick (.tmp 37) (.const (.bool true)) (.tmp 45), 4, "law.go:55", #[⟨8, .data⟩, ⟨16, .data⟩], none⟩) (v := .bool false) rfl (by kernel_rfl) (by kernel_rfl) (by kernel_rfl) (fun _ _ _ h => h) (Or.inl ⟨by rfl, ?_⟩) hHeld3 ?_
          · intro W hSw; first | (go_simp; done) | (go_simp; omega) | (go_simp; with_reducible rfl)
          try simp only [Act.put, List.setIfInBounds_toArray, List.set_cons_zero, List.set_cons_succ]
          refine wpAnyH_take (i := 18) (oi := ⟨some 47, .move (.tmp 46), 4, "law.go:55", #[⟨17, .data⟩, ⟨10, .chain⟩], none⟩) (v := .bool false) rfl (by kernel_rfl) (by kernel_rfl) (by kernel_rfl) (fun _ _ _ h => h) (Or.inl ⟨by rfl, ?_⟩) hHeld3 ?_
          · intro W hSw; first | (go_simp; done) | (go_simp; omega) | (go_simp; with_reducible rfl)
          try simp only [Act.put, List.setIfInBounds_toArray, List.set_cons_zero, List.set_cons_succ]
          refine wpAnyH_take (i := 19) (oi := ⟨some 48, .move (.tmp 3), 23, "law.go:55", #[⟨18, .guard⟩], some (18, false)⟩) (v := .pointer (some p)) rfl (by kernel_rfl) (by kernel_rfl) (by kernel_rfl) (fun _ _ _ h => h) (Or.inl ⟨by rfl, ?_⟩) hHeld3 ?_
          · intro W hSw; first | (go_simp; done) | (go_simp; omega) | (go_simp; with_reducible rfl)
          try simp only [Act.put, List.setIfInBounds_toArray, List.set_cons_zero, List.set_cons_succ]
          refine wpAnyH_take (i := 21) (oi := ⟨some 50, .move (.tmp 4), 25, "law.go:55", #[⟨18, .guard⟩], some (18, false)⟩) (v := .pointer (some ⟨w1.heap.size, 0, none⟩)) rfl (by kernel_rfl) (by kernel_rfl) (by kernel_rfl) (fun _ _ _ h => h) (Or.inl ⟨by rfl, ?_⟩) hHeld3 ?_
          · intro W hSw; first | (go_simp; done) | (go_simp; omega) | (go_simp; with_reducible rfl)
          try simp only [Act.put, List.setIfInBounds_toArray, List.set_cons_zero, List.set_cons_succ]
          refine wpAnyH_take (i := 22) (oi := ⟨some 51, .nilCheck (.tmp 50), 0, "law.go:55", #[⟨21, .data⟩, ⟨18, .guard⟩], some (18, false)⟩) (v := .pointer (some ⟨w1.heap.size, 0, none⟩)) rfl (by kernel_rfl) (by kernel_rfl) (by kernel_rfl) (fun _ _ _ h => h) (Or.inl ⟨by rfl, ?_⟩) hHeld3 ?_
          · intro W hSw; first | (go_simp; done) | (go_simp; omega) | (go_simp; with_reducible rfl)
          try simp only [Act.put, List.setIfInBounds_toArray, List.set_cons_zero, List.set_cons_succ]
          refine wpAnyH_take (i := 23) (oi := ⟨some 52, .fieldAddr 28 (.tmp 51) 1, 0, "law.go:55", #[⟨22, .data⟩, ⟨18, .guard⟩], some (18, false)⟩) (v := .pointer (some ⟨w1.heap.size, 1, none⟩)) rfl (by kernel_rfl) (by kernel_rfl) (by kernel_rfl) (fun _ _ _ h => h) (Or.inl ⟨by rfl, ?_⟩) hHeld3 ?_
          · intro W hSw; first | (go_simp; done) | (go_simp; omega) | (go_simp; with_reducible rfl)
          try simp only [Act.put, List.setIfInBounds_toArray, List.set_cons_zero, List.set_cons_succ]
          refine wpAnyH_take (i := 24) (oi := ⟨some 53, .load 3 (.tmp 52), 3, "law.go:55", #[⟨23, .data⟩, ⟨18, .guard⟩], some (18, false)⟩) (v := .int .i64 (gr : Int)) rfl (by kernel_rfl) (by kernel_rfl) (by kernel_rfl) (fun _ _ _ h => h) (Or.inl ⟨by rfl, ?_⟩) hHeld3 ?_
          · intro W hSw; obtain ⟨a0, a1⟩ := HXX.out W hSw; first | (go_simp; done) | (go_simp; omega) | (go_simp; with_reducible rfl)
          try simp only [Act.put, List.setIfInBounds_toArray, List.set_cons_zero, List.set_cons_succ]
          refine wpAnyH_take (i := 25) (oi := ⟨some 54, .binOp .mul 3 (.const (.int .i64 8)) (.tmp 53) 3, 3, "law.go:55", #[⟨24, .data⟩, ⟨18, .guard⟩], some (18, false)⟩) (v := .int .i64 (8 * (gr : Int))) rfl (by kernel_rfl) (by kernel_rfl) (by kernel_rfl) (fun _ _ _ h => h) (Or.inl ⟨by rfl, ?_⟩) hHeld3 ?_
          · intro W hSw; first | (go_simp; done) | (go_simp; omega) | (go_simp; with_reducible rfl)
          try simp only [Act.put, List.setIfInBounds_toArray, List.set_cons_zero, List.set_cons_succ]
          refine wpAnyH_take (i := 26) (oi := ⟨some 55, .binOp .add 3 (.const (.int .i64 16)) (.tmp 54) 3, 3, "law.go:55", #[⟨25, .data⟩, ⟨18, .guard⟩], some (18, false)⟩) (v := .int .i64 (16 + 8 * (gr : Int))) rfl (by kernel_rfl) (by kernel_rfl) (by kernel_rfl) (fun _ _ _ h => h) (Or.inl ⟨by rfl, ?_⟩) hHeld3 ?_
          · intro W hSw; first | (go_simp; done) | (go_simp; omega) | (go_simp; with_reducible rfl)
          try simp only [Act.put, List.setIfInBounds_toArray, List.set_cons_zero, List.set_cons_succ]
          refine wpAnyH_ready (rs := [20]) (by kernel_rfl) (by simp) ?_
          refine AllReadyH.cons (o := ⟨some 49, .call { callee := .value (.func 11), args := #[.tmp 48], argTypes := #[23] }, 3, "law.go:55", #[⟨19, .data⟩, ⟨18, .chain⟩, ⟨18, .guard⟩], some (18, false)⟩) rfl (fun K hK => ?_) AllReadyH.nil
          try rw [if_pos (by rfl)]
          go_wp2_with (go_at_call 11; refine (TDuo.slots_ H2.out hHeld3).mono ?_; rintro e w4 ⟨⟨z, rfl, hz⟩, hb⟩; have z1 : (z : Int) ≤ 16 + 8 * (gr : Int) := (by have := HGR.out; omega); have z2 : ¬ 16 + 8 * (gr : Int) < (z : Int) := (by omega))
          have hHeld4 := below_then hHeld3 hb
          refine hK.out _ _ hHeld4 (fun _ => ?_)
          clear hK K hHeld3 hb
          try simp only [Act.put, List.setIfInBounds_toArray, List.set_cons_zero, List.set_cons_succ]
          refine wpAnyH_take (i := 27) (oi := ⟨some 56, .binOp .gtr 3 (.tmp 49) (.tmp 55) 3, 4, "law.go:55", #[⟨20, .data⟩, ⟨26, .data⟩, ⟨18, .guard⟩], some (18, false)⟩) (v := .bool false) rfl (by kernel_rfl) (by kernel_rfl) (by kernel_rfl) (fun _ _ _ h => h) (Or.inl ⟨by rfl, ?_⟩) hHeld4 ?_
          · intro W hSw; first | (go_simp; done) | (go_simp; omega) | (go_simp; with_reducible rfl)
          try simp only [Act.put, List.setIfInBounds_toArray, List.set_cons_zero, List.set_cons_succ]
          refine wpAnyH_take (i := 28) (oi := ⟨some 57, .pick (.tmp 47) (.const (.bool true)) (.tmp 56), 4, "law.go:55", #[⟨18, .data⟩, ⟨27, .data⟩], none⟩) (v := .bool false) rfl (by kernel_rfl) (by kernel_rfl) (by kernel_rfl) (fun _ _ _ h => h) (Or.inl ⟨by rfl, ?_⟩) hHeld4 ?_
          · intro W hSw; first | (go_simp; done) | (go_simp; omega) | (go_simp; with_reducible rfl)
          try simp only [Act.put, List.setIfInBounds_toArray, List.set_cons_zero, List.set_cons_succ]
          refine wpAnyH_take (i := 29) (oi := ⟨some 58, .move (.tmp 57), 4, "law.go:55", #[⟨28, .data⟩, ⟨20, .chain⟩], none⟩) (v := .bool false) rfl (by kernel_rfl) (by kernel_rfl) (by kernel_rfl) (fun _ _ _ h => h) (Or.inl ⟨by rfl, ?_⟩) hHeld4 ?_
          · intro W hSw; first | (go_simp; done) | (go_simp; omega) | (go_simp; with_reducible rfl)
          try simp only [Act.put, List.setIfInBounds_toArray, List.set_cons_zero, List.set_cons_succ]
          refine wpAnyH_take (i := 30) (oi := ⟨some 59, .move (.tmp 3), 23, "law.go:55", #[⟨29, .guard⟩], some (29, false)⟩) (v := .pointer (some p)) rfl (by kernel_rfl) (by kernel_rfl) (by kernel_rfl) (fun _ _ _ h => h) (Or.inl ⟨by rfl, ?_⟩) hHeld4 ?_
          · intro W hSw; first | (go_simp; done) | (go_simp; omega) | (go_simp; with_reducible rfl)
          try simp only [Act.put, List.setIfInBounds_toArray, List.set_cons_zero, List.set_cons_succ]
          refine wpAnyH_ready (rs := [31]) (by kernel_rfl) (by simp) ?_
          refine AllReadyH.cons (o := ⟨some 60, .call { callee := .value (.func 12), args := #[.tmp 59], argTypes := #[23] }, 3, "law.go:55", #[⟨30, .data⟩, ⟨29, .chain⟩, ⟨29, .guard⟩], some (29, false)⟩) rfl (fun K hK => ?_) AllReadyH.nil
          try rw [if_pos (by rfl)]
          go_wp2_with (go_at_call 12; refine (TDuo.work_ H2.out hHeld4).mono ?_; rintro e w5 ⟨⟨y, rfl, hy⟩, hb⟩; have y1 : (y : Int) ≤ 8 := (by omega); have y2 : ¬ (y : Int) < 0 := (by omega))
          have hHeld5 := below_then hHeld4 hb
          refine hK.out _ _ hHeld5 (fun _ => ?_)
          clear hK K hHeld4 hb
          try simp only [Act.put, List.setIfInBounds_toArray, List.set_cons_zero, List.set_cons_succ]
          refine wpAnyH_take (i := 32) (oi := ⟨some 61, .binOp .lss 3 (.tmp 60) (.const (.int .i64 0)) 3, 4, "law.go:55", #[⟨31, .data⟩, ⟨29, .guard⟩], some (29, false)⟩) (v := .bool false) rfl (by kernel_rfl) (by kernel_rfl) (by kernel_rfl) (fun _ _ _ h => h) (Or.inl ⟨by rfl, ?_⟩) hHeld5 ?_
          · intro W hSw; first | (go_simp; done) | (go_simp; omega) | (go_simp; with_reducible rfl)
          try simp only [Act.put, List.setIfInBounds_toArray, List.set_cons_zero, List.set_cons_succ]
          refine wpAnyH_take (i := 33) (oi := ⟨some 62, .pick (.tmp 58) (.const (.bool true)) (.tmp 61), 4, "law.go:55", #[⟨29, .data⟩, ⟨32, .data⟩], none⟩) (v := .bool false) rfl (by kernel_rfl) (by kernel_rfl) (by kernel_rfl) (fun _ _ _ h => h) (Or.inl ⟨by rfl, ?_⟩) hHeld5 ?_
          · intro W hSw; first | (go_simp; done) | (go_simp; omega) | (go_simp; with_reducible rfl)
          try simp only [Act.put, List.setIfInBounds_toArray, List.set_cons_zero, List.set_cons_succ]
          refine wpAnyH_take (i := 34) (oi := ⟨some 63, .move (.tmp 62), 4, "law.go:55", #[⟨33, .data⟩, ⟨31, .chain⟩], none⟩) (v := .bool false) rfl (by kernel_rfl) (by kernel_rfl) (by kernel_rfl) (fun _ _ _ h => h) (Or.inl ⟨by rfl, ?_⟩) hHeld5 ?_
          · intro W hSw; first | (go_simp; done) | (go_simp; omega) | (go_simp; with_reducible rfl)
          try simp only [Act.put, List.setIfInBounds_toArray, List.set_cons_zero, List.set_cons_succ]
          refine wpAnyH_take (i := 35) (oi := ⟨some 64, .move (.tmp 3), 23, "law.go:55", #[⟨34, .guard⟩], some (34, false)⟩) (v := .pointer (some p)) rfl (by kernel_rfl) (by kernel_rfl) (by kernel_rfl) (fun _ _ _ h => h) (Or.inl ⟨by rfl, ?_⟩) hHeld5 ?_
          · intro W hSw; first | (go_simp; done) | (go_simp; omega) | (go_simp; with_reducible rfl)
          try simp only [Act.put, List.setIfInBounds_toArray, List.set_cons_zero, List.set_cons_succ]
          refine wpAnyH_ready (rs := [36]) (by kernel_rfl) (by simp) ?_
          refine AllReadyH.cons (o := ⟨some 65, .call { callee := .value (.func 12), args := #[.tmp 64], argTypes := #[23] }, 3, "law.go:55", #[⟨35, .data⟩, ⟨34, .chain⟩, ⟨34, .guard⟩], some (34, false)⟩) rfl (fun K hK => ?_) AllReadyH.nil
          try rw [if_pos (by rfl)]
          go_wp2_with (go_at_call 12; refine (TDuo.work_ H2.out hHeld5).mono ?_; rintro e w6 ⟨⟨x, rfl, hx⟩, hb⟩; have x1 : (x : Int) ≤ 8 := (by omega); have x2 : ¬ 8 < (x : Int) := (by omega))
          have hHeld6 := below_then hHeld5 hb
          refine hK.out _ _ hHeld6 (fun _ => ?_)
          clear hK K hHeld5 hb
          try simp only [Act.put, List.setIfInBounds_toArray, List.set_cons_zero, List.set_cons_succ]
          refine wpAnyH_take (i := 37) (oi := ⟨some 66, .binOp .gtr 3 (.tmp 65) (.const (.int .i64 8)) 3, 4, "law.go:55", #[⟨36, .data⟩, ⟨34, .guard⟩], some (34, false)⟩) (v := .bool false) rfl (by kernel_rfl) (by kernel_rfl) (by kernel_rfl) (fun _ _ _ h => h) (Or.inl ⟨by rfl, ?_⟩) hHeld6 ?_
          · intro W hSw; first | (go_simp; done) | (go_simp; omega) | (go_simp; with_reducible rfl)
          try simp only [Act.put, List.setIfInBounds_toArray, List.set_cons_zero, List.set_cons_succ]
          refine wpAnyH_take (i := 38) (oi := ⟨some 67, .pick (.tmp 63) (.const (.bool true)) (.tmp 66), 4, "law.go:55", #[⟨34, .data⟩, ⟨37, .data⟩], none⟩) (v := .bool false) rfl (by kernel_rfl) (by kernel_rfl) (by kernel_rfl) (fun _ _ _ h => h) (Or.inl ⟨by rfl, ?_⟩) hHeld6 ?_
          · intro W hSw; first | (go_simp; done) | (go_simp; omega) | (go_simp; with_reducible rfl)
          try simp only [Act.put, List.setIfInBounds_toArray, List.set_cons_zero, List.set_cons_succ]
          refine wpAnyH_done (by kernel_rfl) ?_ _
          have HD6 := Lib.hid (H2.out.keep hHeld6)
          clear hHeld6
          go_wp2_with fail
          go_roundw
          case rel => exact ⟨j + 1, M2, HJ.out.1, HJ.out.2, by go_num, HD6.out, by have := HL2.out; have := HML.out; omega⟩
          case measure => simp [intOf]; have := HJ.out.1; omega
      · have j2 : (300 : Int) ≤ (j : Int) := by omega
        go_wp2_with fail
        go_at_call 8
        refine (told_any tab_ok _).mono ?_
        rintro e u1 ⟨rfl, hb1⟩
        have T1 := Lib.hid hb1
        clear hb1
        go_wp2_with fail
        go_at_call 14
        refine (TDuo.names_ HDU.out T1.out).mono ?_
        rintro e u2 ⟨⟨v, la, rfl, ta, pa, sa⟩, hb2⟩
        have TA := Lib.hid ta
        have PA := Lib.hid (And.intro pa sa)
        have T2 := Lib.hid (below_then T1.out hb2)
        clear ta pa sa hb2
        go_wp2_with fail
        go_at_call 15
        refine (TDuo.xnames_ HDU.out T2.out).mono ?_
        rintro e u3 ⟨⟨v2, lb, rfl, tb, pb, sb⟩, hb3⟩
        have e12 := same_sorted PA.out.1 pb PA.out.2 sb
        have TB := Lib.hid (And.intro (TA.out.keep hb3) (show TTexts u3 v2 la from by rw [e12]; exact tb))
        have T3 := Lib.hid (below_then T2.out hb3)
        clear tb pb sb hb3 e12
        go_wp2_with fail
        go_at_call 13
        refine (texts_any u3 v v2 la TB.out.1 TB.out.2 (by have q := PA.out.1.length_eq; unfold TabM.names at q; rw [List.length_map] at q; have := HML.out; omega)).mono ?_
        rintro e u4 ⟨rfl, hb4⟩
        have T4 := Lib.hid (below_then T3.out hb4)
        clear hb4
        go_wp2_with fail
        go_ret
        exact ⟨rfl, HBW.out.trans (T4.out.mono HBW.out.size)⟩
    · have j1 : (n : Int) ≤ (j : Int) := by omega
      go_wp2_with fail
      go_at_call 8
      refine (told_any tab_ok _).mono ?_
      rintro e u1 ⟨rfl, hb1⟩
      have T1 := Lib.hid hb1
      clear hb1
      go_wp2_with fail
      go_at_call 14
      refine (TDuo.names_ HDU.out T1.out).mono ?_
      rintro e u2 ⟨⟨v, la, rfl, ta, pa, sa⟩, hb2⟩
      have TA := Lib.hid ta
      have PA := Lib.hid (And.intro pa sa)
      have T2 := Lib.hid (below_then T1.out hb2)
      clear ta pa sa hb2
      go_wp2_with fail
      go_at_call 15
      refine (TDuo.xnames_ HDU.out T2.out).mono ?_
      rintro e u3 ⟨⟨v2, lb, rfl, tb, pb, sb⟩, hb3⟩
      have e12 := same_sorted PA.out.1 pb PA.out.2 sb
      have TB := Lib.hid (And.intro (TA.out.keep hb3) (show TTexts u3 v2 la from by rw [e12]; exact tb))
      have T3 := Lib.hid (below_then T2.out hb3)
      clear tb pb sb hb3 e12
      go_wp2_with fail
      go_at_call 13
      refine (texts_any u3 v v2 la TB.out.1 TB.out.2 (by have q := PA.out.1.length_eq; unfold TabM.names at q; rw [List.length_map] at q; have := HML.out; omega)).mono ?_
      rintro e u4 ⟨rfl, hb4⟩
      have T4 := Lib.hid (below_then T3.out hb4)
      clear hb4
      go_wp2_with fail
      go_ret
      exact ⟨rfl, HBW.out.trans (T4.out.mono HBW.out.size)⟩
end Go.Proofs.Ytedpanfdkdbblaa
