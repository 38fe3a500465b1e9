/- The document's own table: Del. -/
import Derived.Test.YtedpanfdkdbblaaTrPut
import Derived.Test.YtedpanfdkdbblaaTail
import Derived.Deep.RegionHeldLaw
namespace Go.Proofs.Ytedpanfdkdbblaa
open Go.RowKit
set_option linter.unusedVariables false
/-- append of pairs onto a row of the call's own, as a step of a region that draws its order. -/
theorem step_append_pairs {w : World} {ops : Array Oper} {o : Oper} {a : Act} {K : Act → World → Prop} {Q : Exit → Act → World → Prop} {E : Prop} (hgd : o.guard = none) (s x : Operand)
    (ho : o.op = .call { callee := .builtin .append, args := #[s, x], argTypes := #[26, 26] })
    (base : Nat) (v : Value) (n : Nat) (xs : List Value) (hs : a.eval s = v) (hown : w.ownsRow base 54 2 v n xs)
    (A : Option Addr) (m c : Nat) (l : List (List UInt8 × Int)) (hx : a.eval x = .slice A m c) (hlm : l.length = m) (hA : A = none → c = 0)
    (hnews : ∀ j u, (pcells l)[j]? = some u → ∃ ad, A = some ad ∧ w.cell? (ad.add j) = some u) (hb : n + m ≤ 4096) (hbase : base ≤ w.heap.size)
    (h : ∀ v' w', w'.ownsRow base 54 2 v' (n + m) (xs ++ pcells l) → w.grownBy w' v.ownBlock → (v'.ownBlock = v.ownBlock ∨ v'.ownBlock = some w.heap.size) → K (a.put o.dst v') w') :
    if Region.wanted o (yielded ops a.tmps) = true then Oper.wp Try.prog o a w K Q else E := by
  have hw : Region.wanted o (yielded ops a.tmps) = true := by simp [Region.wanted, hgd]
  rw [if_pos hw]
  obtain ⟨i, hi, hz, h1, h2⟩ := info_parts infoP
  subst hlm
  cases A with
  | none =>
    have e : l = [] := by
      cases l with
      | nil => rfl
      | cons f r => obtain ⟨ad, e, _⟩ := hnews 0 _ rfl; cases e
    subst e
    obtain rfl := hA rfl
    have hrun := run_append_owned_none (P := Try.prog) (w := w) base 26 o.type 54 i 2 Try.underlying26 hi v n xs hown
    unfold Oper.wp
    simp [execOp, ho, resolve, invoke, builtin, hs, hx, hrun, Result.andThen]
    exact h v w (by simpa [pcells] using hown) (World.grownBy.refl w _) (.inl rfl)
  | some ad =>
    obtain ⟨v', w', hr, k2, k3, k4, k5⟩ := run_append_own_at (P := Try.prog) w base 26 o.type 54 i _ 2 24 Try.underlying26 hi hz h1 h2 rfl (by decide) v n xs hown ad l.length c (pcells l) (pcells_length l) (fun j u hu => by obtain ⟨ad', e, hc⟩ := hnews j u hu; cases e; exact hc) (pcells_one l) (by unfold maxLen; omega) (by omega) hbase
    unfold Oper.wp execOp
    simp only [ho, resolve, invoke, builtin, Sem.run_bind, Sem.run_pure, Result.andThen_ok, List.map_toArray, List.map_cons, List.map_nil, hs, hx, hr]
    exact h v' w' k2 k3 k5
theorem RRow.news {w : World} {h : Nat} {A : Option Addr} {n c : Nat} {l : List (List UInt8 × Int)} (F : RRow w h A n c l) (k : Nat) : ∀ j u, (pcells (l.drop k))[j]? = some u → w.cell? ⟨h, k * 2 + j, none⟩ = some u := fun j u hu => by
  have hj : j < (l.drop k).length * 2 := by
    have := (List.getElem?_eq_some_iff.1 hu).1
    rwa [pcells_length] at this
  have hd : (l.drop k).length = l.length - k := List.length_drop
  obtain ⟨q, r, hr, rfl⟩ : ∃ q r, r < 2 ∧ j = q * 2 + r := ⟨j / 2, j % 2, by omega, by omega⟩
  have hq : q < (l.drop k).length := by omega
  have hq' : k + q < l.length := by omega
  obtain ⟨a, b⟩ := pcells_at (l.drop k) q hq
  obtain ⟨x, y⟩ := F.cells (k + q) hq'
  have e : k * 2 + (q * 2 + r) = (k + q) * 2 + r := by omega
  have eg : (l.drop k)[q] = l[k + q] := by simp
  rw [e]
  rw [eg] at a b
  rcases (by omega : r = 0 ∨ r = 1) with rfl | rfl
  · rw [Nat.add_zero] at hu ⊢; rw [x, ← a, hu]
  · rw [y, ← b, hu]
theorem RRow.front {w : World} {h : Nat} {A : Option Addr} {n c : Nat} {l : List (List UInt8 × Int)} (F : RRow w h A n c l) (k : Nat) : ∀ j u, (pcells (l.take k))[j]? = some u → w.cell? ⟨h, j, none⟩ = some u := fun j u hu => by
  have h0 := F.news 0 j u
  rw [List.drop_zero, Nat.zero_mul, Nat.zero_add] at h0
  refine h0 ?_
  have e : pcells l = pcells (l.take k) ++ pcells (l.drop k) := by rw [← pcells_append, List.take_append_drop]
  rw [e, List.getElem?_append_left (List.getElem?_eq_some_iff.1 hu).1, hu]
theorem del_cut {l : List (List UInt8 × Int)} {k : Nat} (hk : k < l.length) (hn : (l.map Prod.fst).Nodup) : (l.filter fun a => a.1 != l[k].1) = l.take k ++ l.drop (k + 1) := by
  have pw := List.pairwise_iff_getElem.1 hn
  have e : l = l.take k ++ l[k] :: l.drop (k + 1) := by rw [← List.drop_eq_getElem_cons hk, List.take_append_drop]
  have f1 : (l.take k).filter (fun a => a.1 != l[k].1) = l.take k := List.filter_eq_self.2 fun a ha => by
    obtain ⟨j, hj, rfl⟩ := List.getElem_of_mem ha
    have hj' : j < k := by rw [List.length_take] at hj; omega
    have := pw j k (by simp; omega) (by simpa using hk) hj'
    simpa using this
  have f2 : (l.drop (k + 1)).filter (fun a => a.1 != l[k].1) = l.drop (k + 1) := List.filter_eq_self.2 fun a ha => by
    obtain ⟨j, hj, rfl⟩ := List.getElem_of_mem ha
    rw [List.length_drop] at hj
    have := pw k (k + 1 + j) (by simpa using hk) (by simp; omega) (by omega)
    simpa using fun x => this (by simpa using x.symm)
  obtain ⟨y, hy⟩ : ∃ y, l[k] = y := ⟨_, rfl⟩
  rw [hy] at e f1 f2 ⊢
  rw [show l.filter (fun a => a.1 != y.1) = (l.take k ++ y :: l.drop (k + 1)).filter (fun a => a.1 != y.1) from congrArg _ e]
  rw [List.filter_append, f1, List.filter_cons, if_neg (by simp), f2]
theorem del_end {w W : World} {B : Nat} {G : Nat → Prop} {g : Nat} {M : TabM.T} {s : List UInt8} {v' : Value} {k : Nat} (R : RT w B G g M) (hB : B ≤ w.heap.size) (hk : k < M.l.length) (hn : (M.l.map Prod.fst).Nodup) (e : M.l[k].1 = s) (hb : Below w.heap.size w W) (own : W.ownsRow w.heap.size 54 2 v' (M.l.length - 1) (pcells (M.l.take k ++ M.l.drop (k + 1)))) {u0 : Value} (c0 : w.cell? ⟨g, 0, none⟩ = some u0) :
    ∃ G', RT (W.setCell ⟨g, 0, none⟩ v') B G' g (TabM.del M s) ∧ (∀ k, G' k → G k ∨ (w.heap.size ≤ k ∧ k < (W.setCell ⟨g, 0, none⟩ v').heap.size)) ∧ Only G w (W.setCell ⟨g, 0, none⟩ v') := by
  have del : TabM.del M s = { M with l := M.l.take k ++ M.l.drop (k + 1) } := by
    unfold TabM.del
    rw [← e, del_cut hk hn]
  rw [del]
  have gl := R.lt
  have len : (M.l.take k ++ M.l.drop (k + 1)).length = M.l.length - 1 := by
    rw [List.length_append, List.length_take, List.length_drop]; omega
  have hvg : ∀ b, v'.ownBlock = some b → w.heap.size ≤ b ∧ b < W.heap.size := fun b hb => own.lt b hb
  have own2 : (W.setCell ⟨g, 0, none⟩ v').ownsRow B 54 2 v' (M.l.length - 1) (pcells (M.l.take k ++ M.l.drop (k + 1))) := by
    have o := own_other own (a := ⟨g, 0, none⟩) v' (fun x => by have := (hvg g x).1; omega)
    refine ⟨o.1, ?_⟩
    rcases o.2 with z | ⟨h, cap, cur, z, hB', r⟩
    · exact .inl z
    · exact .inr ⟨h, cap, cur, z, Nat.le_trans hB hB', r⟩
  refine ⟨fun b => G b ∨ v'.ownBlock = some b, ⟨⟨v', World.cell?_setCell_same (u := u0) _ _ _ ((hb.cell gl).trans c0), by rw [len]; exact own2, fun b hb => ⟨fun x => by have := (hvg b hb).1; omega, .inr hb⟩⟩, ?_, fun i => ?_, ?_, .inl R.own, ?_, R.great9⟩, fun b hb => ?_, ?_⟩
  · rw [World.cell?_setCell_other _ _ _ _ (fun e => by injection e with _ e _; cases e), hb.cell gl]; exact R.great
  · rw [World.frozen?_setCell, hb.frozen gl]; exact R.free i
  · rw [World.size_setCell]; exact Nat.lt_of_lt_of_le gl hb.size
  · rw [len]; have := R.few; omega
  · rcases hb with z | z
    · exact .inl z
    · exact .inr ⟨(hvg b z).1, by rw [World.size_setCell]; exact (hvg b z).2⟩
  · exact (Only.of_below (F := G) hb).setCell (.inl R.own) _
set_option maxRecDepth 20000 in
set_option maxHeartbeats 8000000 in
theorem rdel_any (w : World) (B : Nat) (G : Nat → Prop) (g : Nat) (M : TabM.T) (R : RT w B G g M) (hB : B ≤ w.heap.size) (hnd : (M.l.map Prod.fst).Nodup) (s : ByteArray) :
    RDoes 25 #[.pointer (some ⟨g, 0, none⟩), .string s] (pair (TabM.was M.l s.data.toList) (TabM.is M.l s.data.toList)) w B G g (TabM.del M s.data.toList) := by
  unfold RDoes
  obtain ⟨h, A, c, c0, -, rr, -, hh⟩ := R.open_
  have HR := Lib.hid rr
  have RR := Lib.hid R
  have HH := Lib.hid hh
  have ND := Lib.hid hnd
  have HBB := Lib.hid hB
  have fg0 := R.free 0
  have few := R.few
  obtain ⟨n, hn⟩ : ∃ n, M.l.length = n := ⟨_, rfl⟩
  have HN := Lib.hid hn
  rw [hn] at c0 few
  have n9 : (n : Int) ≤ 1000 := by omega
  have n0 : (0 : Int) ≤ (n : Int) := by omega
  have nc : (n : Int) ≤ (c : Int) := by have := rr.le; omega
  have N9 : Hid (n ≤ 1000) := few
  have HLE : Hid (n ≤ c) := by show n ≤ c; rw [← hn]; exact rr.le
  clear R rr hn hh hnd hB few
  go_enter Try.func25, Try.ntmps25
  go_wp2_with fail
  go_loop [6] (fun i => ∃ k : Nat, k ≤ n ∧ i = .int .i64 k ∧ ∀ j (hj : j < M.l.length), j < k → M.l[j].1 ≠ s.data.toList) (fun i => n - (intOf i).toNat)
  case atStart => exact ⟨0, Nat.zero_le _, rfl, fun j hj h => absurd h (Nat.not_lt_zero _)⟩
  case round =>
    obtain ⟨k, hk, rfl, hb⟩ := hrel
    have HB := Lib.hid hb
    clear hb
    have k0 : (0 : Int) ≤ (k : Int) := by omega
    by_cases hlt : k < n
    · have k1 : (k : Int) < (n : Int) := by omega
      have hkl : k < M.l.length := by rw [HN.out]; exact hlt
      have hnil := HR.out.nil
      obtain ⟨rfl, rfl⟩ | rfl := hnil
      · have := HLE.out
        exact absurd this (by omega)
      · obtain ⟨f1, f2⟩ := HR.out.cells k hkl
        obtain ⟨nm, hnm⟩ : ∃ nm : ByteArray, (⟨M.l[k].1.toArray⟩ : ByteArray) = nm := ⟨_, rfl⟩
        obtain ⟨y, hy⟩ : ∃ y, M.l[k].2 = y := ⟨_, rfl⟩
        have NM : Hid (nm.data.toList = M.l[k].1) := by show nm.data.toList = M.l[k].1; rw [← hnm]
        rw [hnm] at f1
        rw [hy] at f2
        have HY := Lib.hid hy
        have HKL := Lib.hid hkl
        have HLT := Lib.hid hlt
        clear hnm hy
        cases e : (nm.toList == s.toList)
        · have e' : nm.toList ≠ s.toList := beq_eq_false_iff_ne.1 e
          have E := Lib.hid e'
          clear e'
          go_wp2_with fail
          go_round
          case rel => exact ⟨k + 1, hlt, by go_num, fun j hj hjk => by
            by_cases x : j = k
            · subst x; rw [← NM.out, ← ByteArray.toList_eq, ← ByteArray.toList_eq]; exact E.out
            · exact HB.out j hj (by omega)⟩
          case measure => simp [intOf]; omega
        · have e' : nm.toList = s.toList := beq_iff_eq.1 e
          have es : Hid (M.l[k].1 = s.data.toList) := NM.out.symm.trans (by rw [← ByteArray.toList_eq, ← ByteArray.toList_eq]; exact e')
          have P := Lib.hid (find_at HKL.out HB.out es.out)
          have kn : (k : Int) ≤ (n : Int) := by omega
          have kc : (k : Int) ≤ (c : Int) := by omega
          have k11 : (k : Int) + 1 ≤ (n : Int) := by omega
          have k9 : (k : Int) ≤ 1000 := by omega
          obtain ⟨kk, hkk⟩ : ∃ kk : Nat, kk = k + 1 := ⟨_, rfl⟩
          have hk2 : (k : Int) + 1 = (kk : Int) := by omega
          have hw1 : IntKind.i64.wrap (kk : Int) = (kk : Int) := by rw [IntKind.wrap_i64]; omega
          have kk0 : (0 : Int) ≤ (kk : Int) := by omega
          have kkn : (kk : Int) ≤ (n : Int) := by omega
          have HK := Lib.hid hkk
          clear e' hkk
          go_wp2_with fail
          refine wp_region_tail_list (S := fun W => Below w.heap.size w W ∧ W.cell? ⟨g, 0, none⟩ = some (.slice (some ⟨h, 0, none⟩) n c)) (by simp) (by kernel_rfl) (by kernel_rfl) ⟨(Below.refl _ _).drew, c0⟩ (fun hHeld => ?_)
          simp only [List.dropLast_cons_cons, List.dropLast_singleton, List.getLast_cons_cons, List.getLast_singleton, List.length_cons, List.length_nil, Nat.reduceAdd]
          refine wpAnyH_take (i := 0) (v := ?_) rfl (by kernel_rfl) (by kernel_rfl) (by kernel_rfl) (fun _ _ _ h => h) (Or.inl ⟨by rfl, ?_⟩) hHeld ?_
          rotate_left
          · intro W hSw; obtain ⟨hb, hcell⟩ := hSw; go_simp; try with_reducible rfl
          refine wpAnyH_take (i := 2) (v := ?_) rfl (by kernel_rfl) (by kernel_rfl) (by kernel_rfl) (fun _ _ _ h => h) (Or.inl ⟨by rfl, ?_⟩) hHeld ?_
          rotate_left
          · intro W hSw; obtain ⟨hb, hcell⟩ := hSw; go_simp; try with_reducible rfl
          refine wpAnyH_take (i := 3) (v := ?_) rfl (by kernel_rfl) (by kernel_rfl) (by kernel_rfl) (fun _ _ _ h => h) (Or.inl ⟨by rfl, ?_⟩) hHeld ?_
          rotate_left
          · intro W hSw; obtain ⟨hb, hcell⟩ := hSw; go_simp; try with_reducible rfl
          refine wpAnyH_take (i := 4) (v := ?_) rfl (by kernel_rfl) (by kernel_rfl) (by kernel_rfl) (fun _ _ _ h => h) (Or.inl ⟨by rfl, ?_⟩) hHeld ?_
          rotate_left
          · intro W hSw; obtain ⟨hb, hcell⟩ := hSw; go_simp; try with_reducible rfl
          refine wpAnyH_take (i := 5) (v := ?_) rfl (by kernel_rfl) (by kernel_rfl) (by kernel_rfl) (fun _ _ _ h => h) (Or.inl ⟨by rfl, ?_⟩) hHeld ?_
          rotate_left
          · intro W hSw; obtain ⟨hb, hcell⟩ := hSw; go_simp; try with_reducible rfl
          refine wpAnyH_take (i := 6) (v := ?_) rfl (by kernel_rfl) (by kernel_rfl) (by kernel_rfl) (fun _ _ _ h => h) (Or.inl ⟨by rfl, ?_⟩) hHeld ?_
          rotate_left
          · intro W hSw; obtain ⟨hb, hcell⟩ := hSw; go_simp; try with_reducible rfl
          refine wpAnyH_take (i := 7) (v := ?_) rfl (by kernel_rfl) (by kernel_rfl) (by kernel_rfl) (fun _ _ _ h => h) (Or.inl ⟨by rfl, ?_⟩) hHeld ?_
          rotate_left
          · intro W hSw; obtain ⟨hb, hcell⟩ := hSw; go_simp; try with_reducible rfl
          refine wpAnyH_take (i := 9) (v := ?_) rfl (by kernel_rfl) (by kernel_rfl) (by kernel_rfl) (fun _ _ _ h => h) (Or.inl ⟨by rfl, ?_⟩) hHeld ?_
          rotate_left
          · intro W hSw; obtain ⟨hb, hcell⟩ := hSw; go_simp; try with_reducible rfl
          refine wpAnyH_take (i := 10) (v := ?_) rfl (by kernel_rfl) (by kernel_rfl) (by kernel_rfl) (fun _ _ _ h => h) (Or.inl ⟨by rfl, ?_⟩) hHeld ?_
          rotate_left
          · intro W hSw; obtain ⟨hb, hcell⟩ := hSw; go_simp; try with_reducible rfl
          refine wpAnyH_take (i := 11) (v := ?_) rfl (by kernel_rfl) (by kernel_rfl) (by kernel_rfl) (fun _ _ _ h => h) (Or.inl ⟨by rfl, ?_⟩) hHeld ?_
          rotate_left
          · intro W hSw; obtain ⟨hb, hcell⟩ := hSw; go_simp; try with_reducible rfl
          refine wpAnyH_take (i := 12) (v := ?_) rfl (by kernel_rfl) (by kernel_rfl) (by kernel_rfl) (fun _ _ _ h => h) (Or.inl ⟨by rfl, ?_⟩) hHeld ?_
          rotate_left
          · intro W hSw; obtain ⟨hb, hcell⟩ := hSw; go_simp; try with_reducible rfl
          refine wpAnyH_take (i := 13) (v := ?_) rfl (by kernel_rfl) (by kernel_rfl) (by kernel_rfl) (fun _ _ _ h => h) (Or.inl ⟨by rfl, ?_⟩) hHeld ?_
          rotate_left
          · intro W hSw; obtain ⟨hb, hcell⟩ := hSw; go_simp; try with_reducible rfl
          refine wpAnyH_take (i := 14) (v := ?_) rfl (by kernel_rfl) (by kernel_rfl) (by kernel_rfl) (fun _ _ _ h => h) (Or.inl ⟨by rfl, ?_⟩) hHeld ?_
          rotate_left
          · intro W hSw; obtain ⟨hb, hcell⟩ := hSw; go_simp; try with_reducible rfl
          refine wpAnyH_take (i := 15) (v := ?_) rfl (by kernel_rfl) (by kernel_rfl) (by kernel_rfl) (fun _ _ _ h => h) (Or.inl ⟨by rfl, ?_⟩) hHeld ?_
          rotate_left
          · intro W hSw; obtain ⟨hb, hcell⟩ := hSw; go_simp; try with_reducible rfl
          refine wpAnyH_ready (rs := [1]) (by kernel_rfl) (by simp) ?_
          refine AllReadyH.cons rfl (fun K hK => ?_) AllReadyH.nil
          go_simp
          have bw1 : Below w.heap.size w (w.alloc (.cells #[] 54)).drew := ((Below.refl _ w).alloc (Nat.le_refl _) _).drew
          refine hK.out _ _ ⟨bw1, by simp [World.cell?_alloc_some, c0]⟩ (fun hHeld1 => ?_)
          clear hK K hHeld
          refine wpAnyH_ready (rs := [8]) (by kernel_rfl) (by simp) ?_
          refine AllReadyH.cons rfl (fun K hK => ?_) AllReadyH.nil
          refine step_append_pairs rfl (.tmp 36) (.tmp 42) rfl w.heap.size _ 0 [] rfl ⟨rfl, .inr ⟨w.heap.size, 0, #[], rfl, Nat.le_refl _, heap_alloc_new _ _, Nat.le_refl _, Nat.zero_le _, rfl, rfl⟩⟩ (some ⟨h, 0, none⟩) k c (M.l.take k) rfl (by rw [List.length_take, HN.out]; have := HLT.out; omega) (fun e => nomatch e) (fun j u hu => ⟨_, rfl, ?_⟩) (by have := HLT.out; have := N9.out; omega) (by simp) ?_
          · have e := HR.out.front k j u hu
            have q := (Addr.add_lit h 0 j)
            rw [q, Nat.zero_add, bw1.cell (HH.out (by first | rfl | trivial)).2.2]
            exact e
          intro v1 w1 own1 gr1 wh1
          have bw2 : Below w.heap.size w w1 := bw1.grown gr1 bw1.size fun j hj => by injection hj with hj; exact Nat.le_of_eq hj
          refine hK.out _ _ ⟨bw2, by rw [bw2.cell (World.block_lt_of_cell? _ _ c0)]; exact c0⟩ (fun hHeld2 => ?_)
          clear hK K hHeld1
          rw [List.nil_append, Nat.zero_add] at own1
          refine wpAnyH_ready (rs := [16]) (by kernel_rfl) (by simp) ?_
          refine AllReadyH.cons rfl (fun K hK => ?_) AllReadyH.nil
          refine step_append_pairs rfl (.tmp 43) (.tmp 50) rfl w.heap.size v1 k _ rfl own1 _ (n - kk) (c - kk) (M.l.drop kk) rfl (by rw [List.length_drop, HN.out]) (fun e => by split at e <;> cases e) (fun j u hu => ?_) (by have := HLT.out; have := N9.out; omega) bw2.size ?_
          · have e := HR.out.news kk j u hu
            have hne : c ≠ kk := fun z => by
              have h1 := (List.getElem?_eq_some_iff.1 hu).1
              rw [pcells_length, List.length_drop, HN.out] at h1
              have := HLE.out
              omega
            refine ⟨⟨h, kk * 2, none⟩, by rw [if_neg hne], ?_⟩
            rw [Addr.add_lit, bw2.cell (HH.out (by first | rfl | trivial)).2.2]
            exact e
          intro v2 w2 own2 gr2 wh2
          have bw3 : Below w.heap.size w w2 := bw2.grown gr2 bw2.size fun j hj => by
            rcases (own1.2) with ⟨z, _⟩ | ⟨g', cap', cur', z, hg', _⟩
            · rw [z] at hj; cases hj
            · rw [z] at hj; injection hj with hj; rw [← hj]; exact hg'
          refine hK.out _ _ ⟨bw3, by rw [bw3.cell (World.block_lt_of_cell? _ _ c0)]; exact c0⟩ (fun hHeld3 => ?_)
          clear hK K hHeld2
          refine wpAnyH_take (i := 17) (v := ?_) rfl (by kernel_rfl) (by kernel_rfl) (by kernel_rfl) (fun _ _ _ h => h) (Or.inl ⟨by rfl, ?_⟩) hHeld3 ?_
          rotate_left
          · intro W hSw; obtain ⟨hb, hcell⟩ := hSw; go_simp; try with_reducible rfl
          refine wpAnyH_take (i := 18) (v := ?_) rfl (by kernel_rfl) (by kernel_rfl) (by kernel_rfl) (fun _ _ _ h => h) (Or.inl ⟨by rfl, ?_⟩) hHeld3 ?_
          rotate_left
          · intro W hSw; obtain ⟨hb, hcell⟩ := hSw; go_simp; try with_reducible rfl
          refine wpAnyH_done (by kernel_rfl) ?_ _
          obtain ⟨A9, c9, rfl⟩ := row_slice own2
          have cz : w2.cell? ⟨g, 0, none⟩ = some (.slice (some ⟨h, 0, none⟩) n c) := hHeld3.2
          have fz : w2.frozen? ⟨g, 0, none⟩ = false := by rw [bw3.frozen (World.block_lt_of_cell? _ _ c0)]; exact fg0
          have e1 : k + (n - kk) = n - 1 := by have := HK.out; have := HLT.out; omega
          rw [← pcells_append, HK.out, ← HK.out, e1] at own2
          refine behind_normal (wpOp_step rfl (fun K hK => ?_))
          rw [e1]
          have OWN2 := Lib.hid own2
          have BW3 := Lib.hid bw3
          have C0 := Lib.hid c0
          clear own2 bw3 own1 gr1 wh1 gr2 wh2 bw1 bw2 hHeld3 c0
          have own5 : w2.ownsRow w.heap.size 54 2 (.slice A9 (n - 1) c9) (M.l.length - 1) (pcells (M.l.take k ++ M.l.drop (k + 1))) := by
            have := OWN2.out
            rw [HK.out] at this
            rw [HN.out]
            exact this
          have FIN := Lib.hid (del_end RR.out HBB.out HKL.out ND.out es.out BW3.out own5 C0.out)
          clear own5
          go_simp
          refine hK _ _ ?_
          go_wp2_with fail
          all_goals go_ret2
          all_goals exact ⟨by rw [pairS P.out, HY.out]; rfl, FIN.out⟩
    · have k1 : (n : Int) ≤ (k : Int) := by omega
      have P := Lib.hid (find_none fun j hj => HB.out j hj (by have := HN.out; omega))
      go_wp2_with fail
      go_ret2
      have ed : TabM.del M s.data.toList = M := by
        unfold TabM.del
        have : M.l.filter (fun a => a.1 != s.data.toList) = M.l := List.filter_eq_self.2 fun a ha => by
          obtain ⟨j, hj, rfl⟩ := List.getElem_of_mem ha
          simpa using HB.out j hj (by have := HN.out; omega)
        rw [this]
      exact ⟨by rw [pairN P.out]; rfl, G, by rw [ed]; exact RR.out, fun k hk => .inl hk, Only.refl _ _⟩
end Go.Proofs.Ytedpanfdkdbblaa
