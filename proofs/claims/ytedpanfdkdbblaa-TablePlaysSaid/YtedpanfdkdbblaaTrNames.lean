/- The document's own table: Names, sorted by insertion. -/
import Derived.Test.YtedpanfdkdbblaaTrDel
import Derived.Test.YtedpanfdkdbblaaTbNames
namespace Go.Proofs.Ytedpanfdkdbblaa
open Go.RowKit
set_option linter.unusedVariables false
theorem bytesLess_iff : ∀ a b : List UInt8, Op.bytesLess a b = true ↔ a < b
  | [], [] => by simp [Op.bytesLess]
  | [], _ :: _ => by simp [Op.bytesLess]
  | _ :: _, [] => by simp [Op.bytesLess]
  | c :: a, d :: b => by
    rw [Op.bytesLess, List.cons_lt_cons_iff]
    by_cases h : c < d
    · simp [h]
    · by_cases k : c = d
      · subst k
        simp [UInt8.lt_irrefl, bytesLess_iff a b]
      · simp [h, k]
theorem gtr_is (a b : ByteArray) : (!(Op.bytesLess a.toList b.toList || (a.toList == b.toList))) = decide (b.data.toList < a.data.toList) := by
  rw [ByteArray.toList_eq, ByteArray.toList_eq]
  have h1 := bytesLess_iff a.data.toList b.data.toList
  by_cases h : b.data.toList < a.data.toList
  · have n1 : ¬ a.data.toList < b.data.toList := fun x => List.lt_asymm x h
    have n2 : ¬ a.data.toList = b.data.toList := fun x => by rw [x] at h; exact List.lt_irrefl _ h
    have b1 : Op.bytesLess a.data.toList b.data.toList = false := by
      cases q : Op.bytesLess a.data.toList b.data.toList
      · rfl
      · exact absurd (h1.1 q) n1
    rw [b1, decide_eq_true h, show (a.data.toList == b.data.toList) = false from beq_eq_false_iff_ne.2 n2]
    rfl
  · rw [decide_eq_false h]
    have le : a.data.toList ≤ b.data.toList := List.not_lt.1 h
    by_cases e : a.data.toList = b.data.toList
    · simp [e]
    · have lt : a.data.toList < b.data.toList := by
        by_cases x : a.data.toList < b.data.toList
        · exact x
        · exact absurd (List.le_antisymm le (List.not_lt.1 x)) e
      rw [h1.2 lt]
      rfl
theorem run_gtr (W : World) (a b : ByteArray) : (binOp .gtr 9 (.string a) (.string b)).run Try.prog W = .ok (.bool (decide (b.data.toList < a.data.toList))) W := by
  rw [← gtr_is]
  simp [binOp, Op.stringOp]
/-- A name put among sorted ones, behind those that are not greater. -/
theorem ins_sorted {ss : List (List UInt8)} {x : List UInt8} {k : Nat} (hk : k ≤ ss.length) (h : ss.Pairwise (· ≤ ·)) (lo : ∀ (h0 : k - 1 < ss.length), 0 < k → ¬ x < ss[k - 1]) (hi : ∀ j (hj : j < ss.length), k ≤ j → x < ss[j]) : (ss.take k ++ x :: ss.drop k).Pairwise (· ≤ ·) := by
  have pw := List.pairwise_iff_getElem.1 h
  have e : ss.take k ++ ss.drop k = ss := List.take_append_drop k ss
  have h2 := h
  rw [← e, List.pairwise_append] at h2
  rw [List.pairwise_append, List.pairwise_cons]
  have low : ∀ a ∈ ss.take k, a ≤ x := fun a ha => by
    obtain ⟨j, hj, rfl⟩ := List.getElem_of_mem ha
    rw [List.length_take] at hj
    rw [List.getElem_take]
    have l1 : k - 1 < ss.length := by omega
    have b1 : ss[k - 1] ≤ x := List.not_lt.1 (lo l1 (by omega))
    rcases Nat.lt_or_ge j (k - 1) with z | z
    · exact List.le_trans (pw j (k - 1) (by omega) l1 z) b1
    · have : j = k - 1 := by omega
      subst this; exact b1
  have high : ∀ b ∈ ss.drop k, x ≤ b := fun b hb => by
    obtain ⟨j, hj, rfl⟩ := List.getElem_of_mem hb
    rw [List.length_drop] at hj
    rw [List.getElem_drop]
    exact List.le_of_lt (hi (k + j) (by omega) (by omega))
  refine ⟨h2.1, ⟨high, h2.2.1⟩, fun a ha b hb => ?_⟩
  rcases List.mem_cons.1 hb with rfl | hb
  · exact low a ha
  · exact h2.2.2 a ha b hb
theorem ins_perm {ss ns : List (List UInt8)} {x : List UInt8} {k : Nat} (h : ss.Perm ns) : (ss.take k ++ x :: ss.drop k).Perm (ns ++ [x]) := by
  refine List.perm_middle.trans ?_
  rw [List.take_append_drop]
  exact (h.cons x).trans (List.perm_append_singleton x ns).symm
theorem str_from (W : World) (A : Option Addr) (n c k : Nat) (hk : k ≤ n) (hc : n ≤ c) : (Instr.slice 35 (.slice A n c) (some (.int .i64 (k : Int))) none none).run Try.prog W = .ok (.slice (if c = k then A else A.map (·.add k)) (n - k) (c - k)) W := by
  have he : Try.prog.elem 35 = 9 := by kernel_rfl
  have ht : Try.prog.underlying 35 = some (.slice (Try.prog.elem 35)) := by rw [he]; exact Try.underlying35
  have hz : (sizeOf 9).run Try.prog W = .ok 1 W := by kernel_rfl
  rw [run_slice_l W 35 A n c ht .i64 k (by omega) (by omega), he, hz]
  simp [Result.andThen, sliced]
theorem str_to (W : World) (A : Option Addr) (n c k : Nat) (hk : k ≤ c) : (Instr.slice 35 (.slice A n c) none (some (.int .i64 (k : Int))) none).run Try.prog W = .ok (.slice A k c) W := by
  have he : Try.prog.elem 35 = 9 := by kernel_rfl
  have ht : Try.prog.underlying 35 = some (.slice (Try.prog.elem 35)) := by rw [he]; exact Try.underlying35
  have hz : (sizeOf 9).run Try.prog W = .ok 1 W := by kernel_rfl
  rw [run_slice_h W 35 A n c ht .i64 k (by omega) (by omega), he, hz]
  cases A <;> simp [Result.andThen, sliced, Addr.add]
/-- A row of texts reads so. -/
structure SRow (w : World) (A : Option Addr) (n c : Nat) (ss : List (List UInt8)) : Prop where
  len : ss.length = n
  le : n ≤ c
  nil : A = none → c = 0
  base : ∀ p, A = some p → ∃ b, p = ⟨b, 0, none⟩
  at_ : ∀ i (h : i < ss.length), ∃ p, A = some p ∧ p.block < w.heap.size ∧ w.cell? (p.add i) = some (sv ss[i])
theorem row_reads {w0 w : World} {v : Value} {ss : List (List UInt8)} (h : Row w0 w v ss) : ∃ A c, v = .slice A ss.length c ∧ SRow w A ss.length c ss := by
  rcases h.2 with ⟨rfl, h0⟩ | ⟨g, cap, cur, rfl, hg, hb, hc, r⟩
  · exact ⟨none, 0, by rw [h0], rfl, Nat.le_of_eq h0, fun _ => rfl, (fun _ e => nomatch e), fun i hi => absurd hi (by omega)⟩
  · refine ⟨_, cap, rfl, rfl, hc, (fun e => nomatch e), (fun p e => by injection e with e; exact ⟨g, e.symm⟩), fun i hi => ⟨_, rfl, (Array.getElem?_eq_some_iff.1 hb).1, ?_⟩⟩
    exact h.cells (g := g) rfl i (sv ss[i]) (by rw [List.getElem?_map, List.getElem?_eq_getElem hi]; rfl)
theorem SRow.later {w w' : World} {A : Option Addr} {n c : Nat} {ss : List (List UInt8)} (h : SRow w A n c ss) (hb : Below w.heap.size w w') : SRow w' A n c ss :=
  ⟨h.len, h.le, h.nil, h.base, fun i hi => by
    obtain ⟨p, e, hp, hc⟩ := h.at_ i hi
    exact ⟨p, e, Nat.lt_of_lt_of_le hp hb.size, by rw [hb.cell (p := p.add i) (by rw [add_block]; exact hp), hc]⟩⟩
/-- append of texts onto a row of the call's own, as a step of a region that draws its order. -/
theorem step_append_strs {w : World} {ops : Array Oper} {o : Oper} {a : Act} {K : Act → World → Prop} {Q : Exit → Act → World → Prop} {E : Prop} (hgd : o.guard = none) (s x : Operand)
    (ho : o.op = .call { callee := .builtin .append, args := #[s, x], argTypes := #[35, 35] })
    (base : Nat) (v : Value) (n : Nat) (xs : List Value) (hs : a.eval s = v) (hown : w.ownsRow base 9 1 v n xs)
    (A : Option Addr) (m c : Nat) (l : List (List UInt8)) (hx : a.eval x = .slice A m c) (hlm : l.length = m) (hA : A = none → c = 0)
    (hnews : ∀ j u, (l.map sv)[j]? = some u → ∃ ad, A = some ad ∧ w.cell? (ad.add j) = some u) (hb : n + m ≤ 4096) (hbase : base ≤ w.heap.size)
    (h : ∀ v' w', w'.ownsRow base 9 1 v' (n + m) (xs ++ l.map sv) → w.grownBy w' v.ownBlock → (v'.ownBlock = v.ownBlock ∨ v'.ownBlock = some w.heap.size) → K (a.put o.dst v') w') :
    if Region.wanted o (yielded ops a.tmps) = true then Oper.wp Try.prog o a w K Q else E := by
  have hw : Region.wanted o (yielded ops a.tmps) = true := by simp [Region.wanted, hgd]
  rw [if_pos hw]
  obtain ⟨i, hi, hz, h1, h2⟩ := info_parts infoStr
  subst hlm
  cases A with
  | none =>
    have e : l = [] := by
      cases l with
      | nil => rfl
      | cons f r => obtain ⟨ad, e, _⟩ := hnews 0 _ rfl; cases e
    subst e
    obtain rfl := hA rfl
    have hrun := run_append_owned_none (P := Try.prog) (w := w) base 35 o.type 9 i 1 Try.underlying35 hi v n xs hown
    unfold Oper.wp
    simp [execOp, ho, resolve, invoke, builtin, hs, hx, hrun, Result.andThen]
    exact h v w (by simpa using hown) (World.grownBy.refl w _) (.inl rfl)
  | some ad =>
    obtain ⟨v', w', hr, k2, k3, k4, k5⟩ := run_append_own_at (P := Try.prog) w base 35 o.type 9 i _ 1 16 Try.underlying35 hi hz h1 h2 rfl (by decide) v n xs hown ad l.length c (l.map sv) (by rw [List.length_map, Nat.mul_one]) (fun j u hu => by obtain ⟨ad', e, hc⟩ := hnews j u hu; cases e; exact hc) (fun u hu => by obtain ⟨x, _, rfl⟩ := List.mem_map.1 hu; rfl) (by unfold maxLen; omega) (by omega) hbase
    unfold Oper.wp execOp
    simp only [ho, resolve, invoke, builtin, Sem.run_bind, Sem.run_pure, Result.andThen_ok, List.map_toArray, List.map_cons, List.map_nil, hs, hx, hr]
    exact h v' w' k2 k3 k5
theorem fin_row {w W : World} {b t m : Nat} {v : Value} {ss : List (List UInt8)} {x : List UInt8} (h : W.ownsRow b 9 1 v m ((ss.take t).map sv ++ [x].map sv ++ (ss.drop t).map sv)) (hb : w.heap.size ≤ b) (hm : m = (ss.take t ++ x :: ss.drop t).length) : Row w W v (ss.take t ++ x :: ss.drop t) := by
  subst hm
  have e : (ss.take t ++ x :: ss.drop t).map sv = (ss.take t).map sv ++ [x].map sv ++ (ss.drop t).map sv := by simp
  unfold Row
  rw [e]
  refine ⟨h.1, ?_⟩
  rcases h.2 with z | ⟨g, cap, cur, z, hB', r⟩
  · exact .inl z
  · exact .inr ⟨g, cap, cur, z, Nat.le_trans hb hB', r⟩
theorem cell_name (W : World) (s : ByteArray) (b : Nat) (hb : b = W.heap.size) (t : TypeId) : ∀ j u, ([s.data.toList].map sv)[j]? = some u → (W.alloc (.cells #[.string s] t)).cell? ((⟨b, 0, none⟩ : Addr).add j) = some u := fun j u hu => by
  subst hb
  rw [add0, World.cell?_alloc_new]
  have : ([s.data.toList].map sv)[j]? = (#[.string s] : Array Value)[j]? := by
    rcases j with _ | j <;> rfl
  rw [← this]; exact hu
set_option maxRecDepth 20000 in
set_option maxHeartbeats 8000000 in
theorem rnames_any (w : World) (B : Nat) (G : Nat → Prop) (g : Nat) (M : TabM.T) (R : RT w B G g M) :
    Calls Try.prog 15 #[.pointer (some ⟨g, 0, none⟩)] w fun e w' => (∃ v l, e = .returned v ∧ Row w w' v l ∧ l.Perm (TabM.names M) ∧ l.Pairwise (· ≤ ·)) ∧ Below w.heap.size w w' := by
  obtain ⟨h, A, c, c0, -, rr, -, hh⟩ := R.open_
  have HR := Lib.hid rr
  have HH := Lib.hid hh
  have gl := R.lt
  have few := R.few
  obtain ⟨n, hn⟩ : ∃ n, M.l.length = n := ⟨_, rfl⟩
  have HN := Lib.hid hn
  rw [hn] at c0 few
  have n9 : (n : Int) ≤ 1000 := by omega
  have n0 : (0 : Int) ≤ (n : Int) := by omega
  have nc : (n : Int) ≤ (c : Int) := by have := rr.le; omega
  have N9 : Hid (n ≤ 1000) := few
  have HLE : Hid (n ≤ c) := by show n ≤ c; rw [← hn]; exact rr.le
  have C0 := Lib.hid c0
  clear R rr hn hh few
  go_enter Try.func15, Try.ntmps15
  go_wp2_with fail
  go_loopw [3, 4] (fun v i wr => ∃ (k : Nat) (ss : List (List UInt8)), k ≤ n ∧ i = .int .i64 k ∧ Row w wr v ss ∧ ss.Perm ((TabM.names M).take k) ∧ ss.Pairwise (· ≤ ·) ∧ Below w.heap.size w wr) (fun _ i _ => n - (intOf i).toNat)
  case atStart => exact ⟨0, [], Nat.zero_le _, rfl, World.ownsRow_nil _ _ _ _, List.Perm.refl _, List.Pairwise.nil, Below.refl _ _⟩
  case round =>
    obtain ⟨wo, rfl⟩ : ∃ wo, wo = wr := ⟨_, rfl⟩
    obtain ⟨k, ss, hk, rfl, hrow, hperm, hsort, hbel⟩ := hrel
    have R1 := Lib.hid hrow
    have P1 := Lib.hid hperm
    have S1 := Lib.hid hsort
    have B1 := Lib.hid hbel
    have k0 : (0 : Int) ≤ (k : Int) := by omega
    have d0 : wo.cell? ⟨g, 0, none⟩ = some (.slice A n c) := by rw [hbel.cell gl]; exact c0
    clear hrow hperm hsort hbel
    by_cases hlt : k < n
    · have k1 : (k : Int) < (n : Int) := by omega
      have hkl : k < M.l.length := by rw [HN.out]; exact hlt
      have hnil := HR.out.nil
      obtain ⟨rfl, rfl⟩ | rfl := hnil
      · have := HLE.out
        exact absurd this (by omega)
      · obtain ⟨f1, -⟩ := HR.out.cells k hkl
        have hl := (HH.out rfl).2.2
        replace f1 : wo.cell? ⟨h, k * 2, none⟩ = some (.string ⟨M.l[k].1.toArray⟩) := by rw [B1.out.cell hl]; exact f1
        obtain ⟨nm, hnm⟩ : ∃ nm : ByteArray, (⟨M.l[k].1.toArray⟩ : ByteArray) = nm := ⟨_, rfl⟩
        have NM : Hid (nm.data.toList = M.l[k].1) := by show nm.data.toList = M.l[k].1; rw [← hnm]
        rw [hnm] at f1
        obtain ⟨Av, cv, rfl, sr⟩ := row_reads R1.out
        have SR := Lib.hid sr
        have hgt := run_gtr
        obtain ⟨z, hz⟩ : ∃ z, ss.length = z := ⟨_, rfl⟩
        have z9 : z ≤ 1000 := by
          have := P1.out.length_eq
          rw [List.length_take] at this
          have := N9.out
          omega
        have zc : z ≤ cv := by rw [← hz]; exact sr.le
        rw [hz] at R1 SR ⊢
        have HZ := Lib.hid hz
        have HLT := Lib.hid hlt
        have Z9 : Hid (z ≤ 1000) := z9
        have HL := Lib.hid hl
        have ZC := Lib.hid zc
        have HKL := Lib.hid hkl
        have z0 : (0 : Int) ≤ (z : Int) := by omega
        have zz : (z : Int) ≤ 1000 := by omega
        have zcv : (z : Int) ≤ (cv : Int) := by omega
        clear sr hz z9 zc hnm hl hlt
        go_wp2_with fail
        go_loopw [5] (fun j wi => ∃ t : Nat, t ≤ z ∧ j = .int .i64 t ∧ (∀ i (hi : i < ss.length), t ≤ i → nm.data.toList < ss[i]) ∧ Below wo.heap.size wo wi) (fun j _ => (intOf j).toNat)
        case atStart => exact ⟨z, Nat.le_refl _, rfl, fun i hi h => absurd hi (by have := HZ.out; omega), Below.refl _ _⟩
        case round =>
          obtain ⟨wi, rfl⟩ : ∃ wi, wi = wr := ⟨_, rfl⟩
          obtain ⟨t, ht, rfl, hgr, hbi⟩ := hrel
          have T1 := Lib.hid hgr
          have HT := Lib.hid ht
          have t0 : (0 : Int) ≤ (t : Int) := by omega
          have t9 : (t : Int) ≤ (z : Int) := by omega
          have tcv : (t : Int) ≤ (cv : Int) := by omega
          have BWI := Lib.hid hbi
          have BI : Hid (Below w.heap.size w wi) := B1.out.trans (hbi.mono B1.out.size)
          have SRI : Hid (SRow wi Av z cv ss) := SR.out.later hbi
          replace d0 : wi.cell? ⟨g, 0, none⟩ = some (.slice (some ⟨h, 0, none⟩) n c) := by rw [BI.out.cell gl]; exact C0.out
          replace f1 : wi.cell? ⟨h, k * 2, none⟩ = some (.string nm) := by rw [hbi.cell (p := ⟨h, k * 2, none⟩) (Nat.lt_of_lt_of_le HL.out B1.out.size)]; exact f1
          clear hgr hbi
          by_cases h0 : t = 0
          · subst h0
            have LO : Hid (∀ (h0 : 0 - 1 < ss.length), 0 < 0 → ¬ nm.data.toList < ss[0 - 1]) := fun _ x => absurd x (by decide)
            have hs1 : ∀ W : World, (Instr.slice 35 (.slice Av z cv) none (some (.int .i64 (0 : Int))) none).run Try.prog W = .ok (.slice Av 0 cv) W := fun W => str_to W Av z cv 0 (Nat.le_trans HT.out ZC.out)
            obtain ⟨A2, hA2⟩ : ∃ A2, (if cv = 0 then Av else Av.map (·.add 0)) = A2 := ⟨_, rfl⟩
            obtain ⟨c2, hc2⟩ : ∃ c2, cv - 0 = c2 := ⟨_, rfl⟩
            obtain ⟨zt, hzt⟩ : ∃ zt, z - 0 = zt := ⟨_, rfl⟩
            have hs2 : ∀ W : World, (Instr.slice 35 (.slice Av z cv) (some (.int .i64 (0 : Int))) none none).run Try.prog W = .ok (.slice A2 zt c2) W := fun W => by
              have := str_from W Av z cv 0 HT.out ZC.out
              rw [hA2, hc2, hzt] at this
              exact this
            have HZT := Lib.hid hzt
            have PS : Hid ((ss.take 0 ++ nm.data.toList :: ss.drop 0).Perm ((TabM.names M).take (k + 1)) ∧ (ss.take 0 ++ nm.data.toList :: ss.drop 0).Pairwise (· ≤ ·)) := by
              have e : (TabM.names M).take (k + 1) = (TabM.names M).take k ++ [nm.data.toList] := by
                rw [List.take_add_one, NM.out]
                unfold TabM.names
                rw [List.getElem?_map, List.getElem?_eq_getElem HKL.out]
                rfl
              rw [e]
              exact ⟨ins_perm P1.out, ins_sorted (by have := HT.out; have := HZ.out; omega) S1.out LO.out T1.out⟩
            have HA20 : Hid (A2 = none → c2 = 0) := fun e => by
              rw [← hA2] at e
              rw [← hc2]
              split at e
              · rename_i q; omega
              · rcases hAx : Av with _ | p
                · have := SRI.out.nil hAx; omega
                · rw [hAx] at e; simp at e
            have NEW1 : Hid (∀ W, Below wi.heap.size wi W → ∀ j u, ((ss.take 0).map sv)[j]? = some u → ∃ ad, Av = some ad ∧ W.cell? (ad.add j) = some u) := fun W hb j u hu => by
              have hj := (List.getElem?_eq_some_iff.1 hu).1
              rw [List.length_map, List.length_take] at hj
              obtain ⟨p, e, hp, hc⟩ := SRI.out.at_ j (by omega)
              refine ⟨p, e, ?_⟩
              rw [hb.cell (p := p.add j) (by rw [add_block]; exact hp), hc, ← hu, List.getElem?_map, List.getElem?_take, if_pos (by omega), List.getElem?_eq_getElem (by omega)]
              rfl
            have NEW2 : Hid (∀ W, Below wi.heap.size wi W → ∀ j u, ((ss.drop 0).map sv)[j]? = some u → ∃ ad, A2 = some ad ∧ W.cell? (ad.add j) = some u) := fun W hb j u hu => by
              have hj := (List.getElem?_eq_some_iff.1 hu).1
              rw [List.length_map, List.length_drop] at hj
              obtain ⟨p, e, hp, hc⟩ := SRI.out.at_ (0 + j) (by omega)
              have ne : cv ≠ 0 := by have := ZC.out; have := HZ.out; omega
              refine ⟨p.add 0, by rw [← hA2, if_neg ne, e]; rfl, ?_⟩
              rw [add_add, hb.cell (p := p.add (0 + j)) (by rw [add_block]; exact hp), hc, ← hu, List.getElem?_map, List.getElem?_drop, List.getElem?_eq_getElem (by omega)]
              rfl
            clear hA2 hc2 hzt
            go_wp2_with fail
            go_region
            have q0 : Below wi.heap.size wi wi.drew := (Below.refl _ wi).drew
            have BW2 : Hid (Below w.heap.size w wi.drew) := BI.out.drew
            have SR2 : Hid (SRow wi.drew Av z cv ss) := SRI.out.later q0
            have d0' : wi.drew.cell? ⟨g, 0, none⟩ = some (.slice (some ⟨h, 0, none⟩) n c) := d0
            have f1' : wi.drew.cell? ⟨h, k * 2, none⟩ = some (.string nm) := f1
            obtain ⟨wr2, hw2⟩ : ∃ wr2, wi.drew = wr2 := ⟨_, rfl⟩
            rw [hw2] at BW2 SR2 d0' f1' ⊢
            have NEW1' : Hid (∀ W, Below wr2.heap.size wr2 W → ∀ j u, ((ss.take 0).map sv)[j]? = some u → ∃ ad, Av = some ad ∧ W.cell? (ad.add j) = some u) := fun W hb => NEW1.out W (((Below.refl _ wi).drew).trans (by rw [← hw2] at hb; exact hb))
            have NEW2' : Hid (∀ W, Below wr2.heap.size wr2 W → ∀ j u, ((ss.drop 0).map sv)[j]? = some u → ∃ ad, A2 = some ad ∧ W.cell? (ad.add j) = some u) := fun W hb => NEW2.out W (((Below.refl _ wi).drew).trans (by rw [← hw2] at hb; exact hb))
            replace NEW1 := NEW1'
            replace NEW2 := NEW2'
            replace d0 := d0'
            replace f1 := f1'
            clear hw2 q0
            go_wp2_with fail
            refine wp_region_tail_list (S := fun W => Below wr2.heap.size wr2 W ∧ W.cell? ⟨g, 0, none⟩ = some (.slice (some ⟨h, 0, none⟩) n c) ∧ W.cell? ⟨h, k * 2, none⟩ = some (.string nm)) (by simp) (by kernel_rfl) (by kernel_rfl) ⟨(Below.refl _ _).drew, d0, f1⟩ (fun hHeld => ?_)
            simp only [List.dropLast_cons_cons, List.dropLast_singleton, List.getLast_cons_cons, List.getLast_singleton, List.length_cons, List.length_nil, Nat.reduceAdd]
            refine wpAnyH_take (i := 1) (v := ?_) rfl (by kernel_rfl) (by kernel_rfl) (by kernel_rfl) (fun _ _ _ h => h) (Or.inl ⟨by rfl, ?_⟩) hHeld ?_
            rotate_left
            · intro W hSw; obtain ⟨hb, hcell, hnmc⟩ := hSw; go_simp; try with_reducible rfl
            refine wpAnyH_take (i := 2) (v := ?_) rfl (by kernel_rfl) (by kernel_rfl) (by kernel_rfl) (fun _ _ _ h => h) (Or.inl ⟨by rfl, ?_⟩) hHeld ?_
            rotate_left
            · intro W hSw; obtain ⟨hb, hcell, hnmc⟩ := hSw; go_simp; try with_reducible rfl
            refine wpAnyH_take (i := 3) (v := ?_) rfl (by kernel_rfl) (by kernel_rfl) (by kernel_rfl) (fun _ _ _ h => h) (Or.inl ⟨by rfl, ?_⟩) hHeld ?_
            rotate_left
            · intro W hSw; obtain ⟨hb, hcell, hnmc⟩ := hSw; go_simp; try with_reducible rfl
            refine wpAnyH_take (i := 5) (v := ?_) rfl (by kernel_rfl) (by kernel_rfl) (by kernel_rfl) (fun _ _ _ h => h) (Or.inl ⟨by rfl, ?_⟩) hHeld ?_
            rotate_left
            · intro W hSw; obtain ⟨hb, hcell, hnmc⟩ := hSw; go_simp; try with_reducible rfl
            refine wpAnyH_take (i := 6) (v := ?_) rfl (by kernel_rfl) (by kernel_rfl) (by kernel_rfl) (fun _ _ _ h => h) (Or.inl ⟨by rfl, ?_⟩) hHeld ?_
            rotate_left
            · intro W hSw; obtain ⟨hb, hcell, hnmc⟩ := hSw; go_simp; try with_reducible rfl
            refine wpAnyH_take (i := 7) (v := ?_) rfl (by kernel_rfl) (by kernel_rfl) (by kernel_rfl) (fun _ _ _ h => h) (Or.inl ⟨by rfl, ?_⟩) hHeld ?_
            rotate_left
            · intro W hSw; obtain ⟨hb, hcell, hnmc⟩ := hSw; go_simp; try with_reducible rfl
            refine wpAnyH_take (i := 8) (v := ?_) rfl (by kernel_rfl) (by kernel_rfl) (by kernel_rfl) (fun _ _ _ h => h) (Or.inl ⟨by rfl, ?_⟩) hHeld ?_
            rotate_left
            · intro W hSw; obtain ⟨hb, hcell, hnmc⟩ := hSw; go_simp; try with_reducible rfl
            refine wpAnyH_take (i := 9) (v := ?_) rfl (by kernel_rfl) (by kernel_rfl) (by kernel_rfl) (fun _ _ _ h => h) (Or.inl ⟨by rfl, ?_⟩) hHeld ?_
            rotate_left
            · intro W hSw; obtain ⟨hb, hcell, hnmc⟩ := hSw; go_simp; try with_reducible rfl
            refine wpAnyH_take (i := 10) (v := ?_) rfl (by kernel_rfl) (by kernel_rfl) (by kernel_rfl) (fun _ _ _ h => h) (Or.inl ⟨by rfl, ?_⟩) hHeld ?_
            rotate_left
            · intro W hSw; obtain ⟨hb, hcell, hnmc⟩ := hSw; go_simp; try with_reducible rfl
            refine wpAnyH_take (i := 11) (v := ?_) rfl (by kernel_rfl) (by kernel_rfl) (by kernel_rfl) (fun _ _ _ h => h) (Or.inl ⟨by rfl, ?_⟩) hHeld ?_
            rotate_left
            · intro W hSw; obtain ⟨hb, hcell, hnmc⟩ := hSw; go_simp; try with_reducible rfl
            refine wpAnyH_take (i := 12) (v := ?_) rfl (by kernel_rfl) (by kernel_rfl) (by kernel_rfl) (fun _ _ _ h => h) (Or.inl ⟨by rfl, ?_⟩) hHeld ?_
            rotate_left
            · intro W hSw; obtain ⟨hb, hcell, hnmc⟩ := hSw; go_simp; try with_reducible rfl
            refine wpAnyH_take (i := 15) (v := ?_) rfl (by kernel_rfl) (by kernel_rfl) (by kernel_rfl) (fun _ _ _ h => h) (Or.inl ⟨by rfl, ?_⟩) hHeld ?_
            rotate_left
            · intro W hSw; obtain ⟨hb, hcell, hnmc⟩ := hSw; go_simp; try with_reducible rfl
            refine wpAnyH_take (i := 16) (v := ?_) rfl (by kernel_rfl) (by kernel_rfl) (by kernel_rfl) (fun _ _ _ h => h) (Or.inl ⟨by rfl, ?_⟩) hHeld ?_
            rotate_left
            · intro W hSw; obtain ⟨hb, hcell, hnmc⟩ := hSw; go_simp; try with_reducible rfl
            refine wpAnyH_take (i := 17) (v := ?_) rfl (by kernel_rfl) (by kernel_rfl) (by kernel_rfl) (fun _ _ _ h => h) (Or.inl ⟨by rfl, ?_⟩) hHeld ?_
            rotate_left
            · intro W hSw; obtain ⟨hb, hcell, hnmc⟩ := hSw; go_simp; try with_reducible rfl
            refine wpAnyH_ready (rs := [0, 13]) (by kernel_rfl) (by simp) ?_
            refine AllReadyH.cons rfl (fun K hK => ?_) (AllReadyH.cons rfl (fun K hK => ?_) AllReadyH.nil)
            · go_simp
              have bw0 : Below wr2.heap.size wr2 ((wr2.alloc (.cells #[] 9)).drew) := ((Below.refl _ wr2).alloc (Nat.le_refl _) _).drew
              refine hK.out _ _ ⟨bw0, by rw [bw0.cell (World.block_lt_of_cell? _ _ d0)]; exact d0, by rw [bw0.cell (World.block_lt_of_cell? _ _ f1)]; exact f1⟩ (fun hHeld0 => ?_)
              clear hK K hHeld
              refine wpAnyH_ready (rs := [4, 13]) (by kernel_rfl) (by simp) ?_
              refine AllReadyH.cons rfl (fun K hK => ?_) (AllReadyH.cons rfl (fun K hK => ?_) AllReadyH.nil)
              · refine step_append_strs rfl (.tmp 37) (.tmp 40) rfl wr2.heap.size _ 0 [] rfl ⟨rfl, .inr ⟨wr2.heap.size, 0, #[], rfl, Nat.le_refl _, heap_alloc_new _ _, Nat.le_refl _, Nat.zero_le _, rfl, rfl⟩⟩ Av 0 cv (ss.take 0) rfl (by rw [List.length_take, HZ.out]; have := HT.out; omega) SR2.out.nil (fun j u hu => NEW1.out _ bw0 j u hu) (by have := HT.out; have := Z9.out; omega) bw0.size ?_
                intro v4 w4 own4 gr4 wh4
                have bw4 : Below wr2.heap.size wr2 w4 := bw0.grown gr4 bw0.size fun j hj => by injection hj with hj; rw [← hj]; exact Nat.le_refl _
                rw [List.nil_append, Nat.zero_add] at own4
                refine hK.out _ _ ⟨bw4, by rw [bw4.cell (World.block_lt_of_cell? _ _ d0)]; exact d0, by rw [bw4.cell (World.block_lt_of_cell? _ _ f1)]; exact f1⟩ (fun hHeld4 => ?_)
                clear hK K hHeld0
                refine wpAnyH_ready (rs := [13]) (by kernel_rfl) (by simp) ?_
                refine AllReadyH.cons rfl (fun K hK => ?_) AllReadyH.nil
                go_simp
                have bw13 : Below wr2.heap.size wr2 (w4.alloc (.cells #[.string nm] 9)) := bw4.alloc bw4.size _
                refine hK.out _ _ ⟨bw13, by rw [bw13.cell (World.block_lt_of_cell? _ _ d0)]; exact d0, by rw [bw13.cell (World.block_lt_of_cell? _ _ f1)]; exact f1⟩ (fun hHeld13 => ?_)
                clear hK K hHeld4
                have own41 : (w4.alloc (.cells #[.string nm] 9)).ownsRow wr2.heap.size 9 1 v4 0 ((ss.take 0).map sv) := own4.alloc _
                have cel : ∀ j u, ([nm.data.toList].map sv)[j]? = some u → (w4.alloc (.cells #[.string nm] 9)).cell? ((⟨w4.heap.size, 0, none⟩ : Addr).add j) = some u := cell_name w4 nm _ rfl _
                refine wpAnyH_ready (rs := [14]) (by kernel_rfl) (by simp) ?_
                refine AllReadyH.cons rfl (fun K hK => ?_) AllReadyH.nil
                refine step_append_strs rfl (.tmp 41) (.tmp 50) rfl wr2.heap.size v4 0 ((ss.take 0).map sv) rfl own41 (some ⟨w4.heap.size, 0, none⟩) 1 1 [nm.data.toList] rfl rfl (fun e => nomatch e) (fun j u hu => ⟨_, rfl, cel j u hu⟩) (by have := HT.out; have := Z9.out; omega) bw13.size ?_
                intro v14 w14 own14 gr14 wh14
                have bw14 : Below wr2.heap.size wr2 w14 := bw13.grown gr14 bw13.size fun j hj => (own41.lt j hj).1
                refine hK.out _ _ ⟨bw14, by rw [bw14.cell (World.block_lt_of_cell? _ _ d0)]; exact d0, by rw [bw14.cell (World.block_lt_of_cell? _ _ f1)]; exact f1⟩ (fun hHeld14 => ?_)
                clear hK K hHeld13
                refine wpAnyH_ready (rs := [18]) (by kernel_rfl) (by simp) ?_
                refine AllReadyH.cons rfl (fun K hK => ?_) AllReadyH.nil
                refine step_append_strs rfl (.tmp 51) (.tmp 54) rfl wr2.heap.size v14 (0 + 1) ((ss.take 0).map sv ++ [nm.data.toList].map sv) rfl own14 A2 zt c2 (ss.drop 0) rfl (by rw [List.length_drop, HZ.out, HZT.out]) HA20.out (fun j u hu => NEW2.out _ bw14 j u hu) (by have := HT.out; have := Z9.out; have := HZT.out; omega) bw14.size ?_
                intro v18 w18 own18 gr18 wh18
                have bw18 : Below wr2.heap.size wr2 w18 := bw14.grown gr18 bw14.size fun j hj => (own14.lt j hj).1
                refine hK.out _ _ ⟨bw18, by rw [bw18.cell (World.block_lt_of_cell? _ _ d0)]; exact d0, by rw [bw18.cell (World.block_lt_of_cell? _ _ f1)]; exact f1⟩ (fun hHeld18 => ?_)
                clear hK K hHeld14
                refine wpAnyH_done (by kernel_rfl) ?_ _
                have OWN := Lib.hid (fin_row own18 (BW2.out.size) (by rw [List.length_append, List.length_cons, List.length_take, List.length_drop]; have := HZT.out; have := HZ.out; have := HT.out; omega))
                have BFIN := Lib.hid (BW2.out.trans (bw18.mono BW2.out.size))
                obtain ⟨A9, c9, rfl⟩ := row_slice own18
                refine behind_normal (wpOp_step rfl (fun K hK => ?_))
                clear own18 gr18 wh18 bw18 own14 gr14 wh14 bw14 hHeld18
                go_simp
                refine hK _ _ ?_
                go_wp2_with fail
                all_goals go_roundw
                all_goals first
                  | exact ⟨k + 1, _, HLT.out, by go_num, OWN.out, PS.out.1, PS.out.2, BFIN.out⟩
                  | (simp [intOf]; have := HLT.out; omega)
              · go_simp
                have bw13 : Below wr2.heap.size wr2 (((wr2.alloc (.cells #[] 9)).alloc (.cells #[.string nm] 9)).drew) := (((Below.refl _ wr2).alloc (Nat.le_refl _) _).alloc (by simp) _).drew
                refine hK.out _ _ ⟨bw13, by rw [bw13.cell (World.block_lt_of_cell? _ _ d0)]; exact d0, by rw [bw13.cell (World.block_lt_of_cell? _ _ f1)]; exact f1⟩ (fun hHeld13 => ?_)
                clear hK K hHeld0
                refine wpAnyH_ready (rs := [4]) (by kernel_rfl) (by simp) ?_
                refine AllReadyH.cons rfl (fun K hK => ?_) AllReadyH.nil
                refine step_append_strs rfl (.tmp 37) (.tmp 40) rfl wr2.heap.size _ 0 [] rfl ⟨rfl, .inr ⟨wr2.heap.size, 0, #[], rfl, Nat.le_refl _, (heap_alloc_old _ _ (by simp)).trans (heap_alloc_new _ _), Nat.le_refl _, Nat.zero_le _, rfl, rfl⟩⟩ Av 0 cv (ss.take 0) rfl (by rw [List.length_take, HZ.out]; have := HT.out; omega) SR2.out.nil (fun j u hu => NEW1.out _ bw13 j u hu) (by have := HT.out; have := Z9.out; omega) bw13.size ?_
                intro v4 w4 own4 gr4 wh4
                have bw4 : Below wr2.heap.size wr2 w4 := bw13.grown gr4 bw13.size fun j hj => by injection hj with hj; rw [← hj]; exact Nat.le_refl _
                rw [List.nil_append, Nat.zero_add] at own4
                refine hK.out _ _ ⟨bw4, by rw [bw4.cell (World.block_lt_of_cell? _ _ d0)]; exact d0, by rw [bw4.cell (World.block_lt_of_cell? _ _ f1)]; exact f1⟩ (fun hHeld4 => ?_)
                clear hK K hHeld13
                have cel : ∀ j u, ([nm.data.toList].map sv)[j]? = some u → w4.cell? ((⟨wr2.heap.size + 1, 0, none⟩ : Addr).add j) = some u := fun j u hu => by
                  have e := cell_name (wr2.alloc (.cells #[] 9)) nm (wr2.heap.size + 1) (by simp) 9 j u hu
                  rw [add0] at e ⊢
                  exact gr4.cell e (fun x => by have x : some (wr2.heap.size + 1) = some wr2.heap.size := x; injection x with x; omega)
                refine wpAnyH_ready (rs := [14]) (by kernel_rfl) (by simp) ?_
                refine AllReadyH.cons rfl (fun K hK => ?_) AllReadyH.nil
                refine step_append_strs rfl (.tmp 41) (.tmp 50) rfl wr2.heap.size v4 0 ((ss.take 0).map sv) rfl own4 (some ⟨wr2.heap.size + 1, 0, none⟩) 1 1 [nm.data.toList] rfl rfl (fun e => nomatch e) (fun j u hu => ⟨_, rfl, cel j u hu⟩) (by have := HT.out; have := Z9.out; omega) bw4.size ?_
                intro v14 w14 own14 gr14 wh14
                have bw14 : Below wr2.heap.size wr2 w14 := bw4.grown gr14 bw4.size fun j hj => (own4.lt j hj).1
                refine hK.out _ _ ⟨bw14, by rw [bw14.cell (World.block_lt_of_cell? _ _ d0)]; exact d0, by rw [bw14.cell (World.block_lt_of_cell? _ _ f1)]; exact f1⟩ (fun hHeld14 => ?_)
                clear hK K hHeld4
                refine wpAnyH_ready (rs := [18]) (by kernel_rfl) (by simp) ?_
                refine AllReadyH.cons rfl (fun K hK => ?_) AllReadyH.nil
                refine step_append_strs rfl (.tmp 51) (.tmp 54) rfl wr2.heap.size v14 (0 + 1) ((ss.take 0).map sv ++ [nm.data.toList].map sv) rfl own14 A2 zt c2 (ss.drop 0) rfl (by rw [List.length_drop, HZ.out, HZT.out]) HA20.out (fun j u hu => NEW2.out _ bw14 j u hu) (by have := HT.out; have := Z9.out; have := HZT.out; omega) bw14.size ?_
                intro v18 w18 own18 gr18 wh18
                have bw18 : Below wr2.heap.size wr2 w18 := bw14.grown gr18 bw14.size fun j hj => (own14.lt j hj).1
                refine hK.out _ _ ⟨bw18, by rw [bw18.cell (World.block_lt_of_cell? _ _ d0)]; exact d0, by rw [bw18.cell (World.block_lt_of_cell? _ _ f1)]; exact f1⟩ (fun hHeld18 => ?_)
                clear hK K hHeld14
                refine wpAnyH_done (by kernel_rfl) ?_ _
                have OWN := Lib.hid (fin_row own18 (BW2.out.size) (by rw [List.length_append, List.length_cons, List.length_take, List.length_drop]; have := HZT.out; have := HZ.out; have := HT.out; omega))
                have BFIN := Lib.hid (BW2.out.trans (bw18.mono BW2.out.size))
                obtain ⟨A9, c9, rfl⟩ := row_slice own18
                refine behind_normal (wpOp_step rfl (fun K hK => ?_))
                clear own18 gr18 wh18 bw18 own14 gr14 wh14 bw14 hHeld18
                go_simp
                refine hK _ _ ?_
                go_wp2_with fail
                all_goals go_roundw
                all_goals first
                  | exact ⟨k + 1, _, HLT.out, by go_num, OWN.out, PS.out.1, PS.out.2, BFIN.out⟩
                  | (simp [intOf]; have := HLT.out; omega)
            · go_simp
              have bw13 : Below wr2.heap.size wr2 ((wr2.alloc (.cells #[.string nm] 9)).drew) := ((Below.refl _ wr2).alloc (Nat.le_refl _) _).drew
              refine hK.out _ _ ⟨bw13, by rw [bw13.cell (World.block_lt_of_cell? _ _ d0)]; exact d0, by rw [bw13.cell (World.block_lt_of_cell? _ _ f1)]; exact f1⟩ (fun hHeld13 => ?_)
              clear hK K hHeld
              refine wpAnyH_ready (rs := [0]) (by kernel_rfl) (by simp) ?_
              refine AllReadyH.cons rfl (fun K hK => ?_) AllReadyH.nil
              go_simp
              have bw0 : Below wr2.heap.size wr2 (((wr2.alloc (.cells #[.string nm] 9)).alloc (.cells #[] 9)).drew) := (((Below.refl _ wr2).alloc (Nat.le_refl _) _).alloc (by simp) _).drew
              refine hK.out _ _ ⟨bw0, by rw [bw0.cell (World.block_lt_of_cell? _ _ d0)]; exact d0, by rw [bw0.cell (World.block_lt_of_cell? _ _ f1)]; exact f1⟩ (fun hHeld0 => ?_)
              clear hK K hHeld13
              refine wpAnyH_ready (rs := [4]) (by kernel_rfl) (by simp) ?_
              refine AllReadyH.cons rfl (fun K hK => ?_) AllReadyH.nil
              refine step_append_strs rfl (.tmp 37) (.tmp 40) rfl wr2.heap.size _ 0 [] rfl ⟨rfl, .inr ⟨(wr2.heap.size + 1), 0, #[], rfl, Nat.le_succ _, heap_alloc2_new wr2 _ _, Nat.le_refl _, Nat.zero_le _, rfl, rfl⟩⟩ Av 0 cv (ss.take 0) rfl (by rw [List.length_take, HZ.out]; have := HT.out; omega) SR2.out.nil (fun j u hu => NEW1.out _ bw0 j u hu) (by have := HT.out; have := Z9.out; omega) bw0.size ?_
              intro v4 w4 own4 gr4 wh4
              have bw4 : Below wr2.heap.size wr2 w4 := bw0.grown gr4 bw0.size fun j hj => by injection hj with hj; rw [← hj]; exact Nat.le_succ _
              rw [List.nil_append, Nat.zero_add] at own4
              refine hK.out _ _ ⟨bw4, by rw [bw4.cell (World.block_lt_of_cell? _ _ d0)]; exact d0, by rw [bw4.cell (World.block_lt_of_cell? _ _ f1)]; exact f1⟩ (fun hHeld4 => ?_)
              clear hK K hHeld0
              have cel : ∀ j u, ([nm.data.toList].map sv)[j]? = some u → w4.cell? ((⟨wr2.heap.size, 0, none⟩ : Addr).add j) = some u := fun j u hu => by
                have e := cell_name wr2 nm wr2.heap.size rfl 9 j u hu
                rw [add0] at e ⊢
                refine gr4.cell ?_ (fun x => by have x : some wr2.heap.size = some (wr2.heap.size + 1) := x; injection x with x; omega)
                have q := ((Below.refl (wr2.alloc (.cells #[.string nm] 9)).heap.size (wr2.alloc (.cells #[.string nm] 9))).alloc (Nat.le_refl _) (.cells #[] 9)).cell (p := ⟨wr2.heap.size, j, none⟩) (by show wr2.heap.size < _; simp)
                exact q.trans e
              refine wpAnyH_ready (rs := [14]) (by kernel_rfl) (by simp) ?_
              refine AllReadyH.cons rfl (fun K hK => ?_) AllReadyH.nil
              refine step_append_strs rfl (.tmp 41) (.tmp 50) rfl wr2.heap.size v4 0 ((ss.take 0).map sv) rfl own4 (some ⟨wr2.heap.size, 0, none⟩) 1 1 [nm.data.toList] rfl rfl (fun e => nomatch e) (fun j u hu => ⟨_, rfl, cel j u hu⟩) (by have := HT.out; have := Z9.out; omega) bw4.size ?_
              intro v14 w14 own14 gr14 wh14
              have bw14 : Below wr2.heap.size wr2 w14 := bw4.grown gr14 bw4.size fun j hj => (own4.lt j hj).1
              refine hK.out _ _ ⟨bw14, by rw [bw14.cell (World.block_lt_of_cell? _ _ d0)]; exact d0, by rw [bw14.cell (World.block_lt_of_cell? _ _ f1)]; exact f1⟩ (fun hHeld14 => ?_)
              clear hK K hHeld4
              refine wpAnyH_ready (rs := [18]) (by kernel_rfl) (by simp) ?_
              refine AllReadyH.cons rfl (fun K hK => ?_) AllReadyH.nil
              refine step_append_strs rfl (.tmp 51) (.tmp 54) rfl wr2.heap.size v14 (0 + 1) ((ss.take 0).map sv ++ [nm.data.toList].map sv) rfl own14 A2 zt c2 (ss.drop 0) rfl (by rw [List.length_drop, HZ.out, HZT.out]) HA20.out (fun j u hu => NEW2.out _ bw14 j u hu) (by have := HT.out; have := Z9.out; have := HZT.out; omega) bw14.size ?_
              intro v18 w18 own18 gr18 wh18
              have bw18 : Below wr2.heap.size wr2 w18 := bw14.grown gr18 bw14.size fun j hj => (own14.lt j hj).1
              refine hK.out _ _ ⟨bw18, by rw [bw18.cell (World.block_lt_of_cell? _ _ d0)]; exact d0, by rw [bw18.cell (World.block_lt_of_cell? _ _ f1)]; exact f1⟩ (fun hHeld18 => ?_)
              clear hK K hHeld14
              refine wpAnyH_done (by kernel_rfl) ?_ _
              have OWN := Lib.hid (fin_row own18 (BW2.out.size) (by rw [List.length_append, List.length_cons, List.length_take, List.length_drop]; have := HZT.out; have := HZ.out; have := HT.out; omega))
              have BFIN := Lib.hid (BW2.out.trans (bw18.mono BW2.out.size))
              obtain ⟨A9, c9, rfl⟩ := row_slice own18
              refine behind_normal (wpOp_step rfl (fun K hK => ?_))
              clear own18 gr18 wh18 bw18 own14 gr14 wh14 bw14 hHeld18
              go_simp
              refine hK _ _ ?_
              go_wp2_with fail
              all_goals go_roundw
              all_goals first
                | exact ⟨k + 1, _, HLT.out, by go_num, OWN.out, PS.out.1, PS.out.2, BFIN.out⟩
                | (simp [intOf]; have := HLT.out; omega)
          · have t1 : (0 : Int) < (t : Int) := by omega
            have tl : t - 1 < ss.length := by rw [HZ.out]; omega
            obtain ⟨pa, hpa, hpb, hpc⟩ := SRI.out.at_ (t - 1) tl
            obtain ⟨om, hom⟩ : ∃ om : ByteArray, (⟨ss[t - 1].toArray⟩ : ByteArray) = om := ⟨_, rfl⟩
            have OM : Hid (om.data.toList = ss[t - 1]) := by show om.data.toList = ss[t - 1]; rw [← hom]
            obtain ⟨tm, htm⟩ : ∃ tm, t - 1 = tm := ⟨_, rfl⟩
            have tmi : (t : Int) - 1 = (tm : Int) := by omega
            obtain ⟨gb, rfl⟩ := SRI.out.base pa hpa
            replace hpc : wi.cell? ⟨gb, tm, none⟩ = some (.string om) := by rw [← htm, ← hom, ← add0]; exact hpc
            have TM := Lib.hid htm
            have tm0 : (0 : Int) ≤ (tm : Int) := by omega
            have tmz : (tm : Int) < (z : Int) := by omega
            have wtl : IntKind.i64.wrap (tm : Int) = (tm : Int) := by rw [IntKind.wrap_i64]; omega
            have wtm : wrap64 ((t : Int) - 1) = (tm : Int) := by unfold wrap64; omega
            subst hpa
            clear hpb hom
            by_cases hcmp : nm.data.toList < om.data.toList
            · have dc := decide_eq_true hcmp
              have HGB := Lib.hid ((gtr_is om nm).trans dc)
              have HCM := Lib.hid hcmp
              have H0 := Lib.hid h0
              clear hcmp dc h0 htm hgt
              go_wp2_with fail
              refine wp_region_held_drew (S := fun W => W = wi.drew) (by kernel_rfl) rfl (fun hHeld => ?_)
              refine wpAnyH_take (i := 0) (oi := ⟨some 17, .move (.tmp 5), 3, "ref.go:275", #[], none⟩) (v := .int .i64 (t : Int)) rfl (by kernel_rfl) (by kernel_rfl) (by kernel_rfl) (fun _ _ _ h => h) (Or.inl ⟨by rfl, ?_⟩) hHeld ?_
              · intro W hSw; subst hSw; first | (go_simp; done) | (go_simp; omega) | (go_simp; rw [wtl, if_pos ⟨tm0, tmz⟩]; try rfl) | (go_simp; simpa using HGB.out) | (go_simp; with_reducible rfl)
              try simp only [Act.put, List.setIfInBounds_toArray, List.set_cons_zero, List.set_cons_succ]
              refine wpAnyH_take (i := 1) (oi := ⟨some 18, .binOp .gtr 3 (.tmp 17) (.const (.int .i64 0)) 3, 4, "ref.go:275", #[⟨0, .data⟩], none⟩) (v := .bool true) rfl (by kernel_rfl) (by kernel_rfl) (by kernel_rfl) (fun _ _ _ h => h) (Or.inl ⟨by rfl, ?_⟩) hHeld ?_
              · intro W hSw; subst hSw; first | (go_simp; done) | (go_simp; omega) | (go_simp; rw [wtl, if_pos ⟨tm0, tmz⟩]; try rfl) | (go_simp; simpa using HGB.out) | (go_simp; with_reducible rfl)
              try simp only [Act.put, List.setIfInBounds_toArray, List.set_cons_zero, List.set_cons_succ]
              refine wpAnyH_take (i := 2) (oi := ⟨some 19, .move (.tmp 18), 4, "ref.go:275", #[⟨1, .data⟩], none⟩) (v := .bool true) rfl (by kernel_rfl) (by kernel_rfl) (by kernel_rfl) (fun _ _ _ h => h) (Or.inl ⟨by rfl, ?_⟩) hHeld ?_
              · intro W hSw; subst hSw; first | (go_simp; done) | (go_simp; omega) | (go_simp; rw [wtl, if_pos ⟨tm0, tmz⟩]; try rfl) | (go_simp; simpa using HGB.out) | (go_simp; with_reducible rfl)
              try simp only [Act.put, List.setIfInBounds_toArray, List.set_cons_zero, List.set_cons_succ]
              refine wpAnyH_take (i := 3) (oi := ⟨some 20, .move (.tmp 3), 35, "ref.go:275", #[⟨2, .guard⟩], some (2, true)⟩) (v := .slice (some ⟨gb, 0, none⟩) z cv) rfl (by kernel_rfl) (by kernel_rfl) (by kernel_rfl) (fun _ _ _ h => h) (Or.inl ⟨by rfl, ?_⟩) hHeld ?_
              · intro W hSw; subst hSw; first | (go_simp; done) | (go_simp; omega) | (go_simp; rw [wtl, if_pos ⟨tm0, tmz⟩]; try rfl) | (go_simp; simpa using HGB.out) | (go_simp; with_reducible rfl)
              try simp only [Act.put, List.setIfInBounds_toArray, List.set_cons_zero, List.set_cons_succ]
              refine wpAnyH_take (i := 4) (oi := ⟨some 21, .move (.tmp 5), 3, "ref.go:275", #[⟨2, .guard⟩], some (2, true)⟩) (v := .int .i64 (t : Int)) rfl (by kernel_rfl) (by kernel_rfl) (by kernel_rfl) (fun _ _ _ h => h) (Or.inl ⟨by rfl, ?_⟩) hHeld ?_
              · intro W hSw; subst hSw; first | (go_simp; done) | (go_simp; omega) | (go_simp; rw [wtl, if_pos ⟨tm0, tmz⟩]; try rfl) | (go_simp; simpa using HGB.out) | (go_simp; with_reducible rfl)
              try simp only [Act.put, List.setIfInBounds_toArray, List.set_cons_zero, List.set_cons_succ]
              refine wpAnyH_take (i := 5) (oi := ⟨some 22, .binOp .sub 3 (.tmp 21) (.const (.int .i64 1)) 3, 3, "ref.go:275", #[⟨4, .data⟩, ⟨2, .guard⟩], some (2, true)⟩) (v := .int .i64 (tm : Int)) rfl (by kernel_rfl) (by kernel_rfl) (by kernel_rfl) (fun _ _ _ h => h) (Or.inl ⟨by rfl, ?_⟩) hHeld ?_
              · intro W hSw; subst hSw; first | (go_simp; done) | (go_simp; omega) | (go_simp; rw [wtl, if_pos ⟨tm0, tmz⟩]; try rfl) | (go_simp; simpa using HGB.out) | (go_simp; with_reducible rfl)
              try simp only [Act.put, List.setIfInBounds_toArray, List.set_cons_zero, List.set_cons_succ]
              refine wpAnyH_take (i := 6) (oi := ⟨some 23, .indexAddr 35 (.tmp 20) (.tmp 22), 0, "ref.go:275", #[⟨3, .data⟩, ⟨5, .data⟩, ⟨2, .guard⟩], some (2, true)⟩) (v := .pointer (some ⟨gb, tm, none⟩)) rfl (by kernel_rfl) (by kernel_rfl) (by kernel_rfl) (fun _ _ _ h => h) (Or.inl ⟨by rfl, ?_⟩) hHeld ?_
              · intro W hSw; subst hSw; first | (go_simp; done) | (go_simp; omega) | (go_simp; rw [wtl, if_pos ⟨tm0, tmz⟩]; try rfl) | (go_simp; simpa using HGB.out) | (go_simp; with_reducible rfl)
              try simp only [Act.put, List.setIfInBounds_toArray, List.set_cons_zero, List.set_cons_succ]
              refine wpAnyH_take (i := 7) (oi := ⟨some 24, .load 9 (.tmp 23), 9, "ref.go:275", #[⟨6, .data⟩, ⟨2, .guard⟩], some (2, true)⟩) (v := .string om) rfl (by kernel_rfl) (by kernel_rfl) (by kernel_rfl) (fun _ _ _ h => h) (Or.inl ⟨by rfl, ?_⟩) hHeld ?_
              · intro W hSw; subst hSw; first | (go_simp; done) | (go_simp; omega) | (go_simp; rw [wtl, if_pos ⟨tm0, tmz⟩]; try rfl) | (go_simp; simpa using HGB.out) | (go_simp; with_reducible rfl)
              try simp only [Act.put, List.setIfInBounds_toArray, List.set_cons_zero, List.set_cons_succ]
              refine wpAnyH_take (i := 8) (oi := ⟨some 25, .move (.tmp 0), 25, "ref.go:275", #[⟨2, .guard⟩], some (2, true)⟩) (v := .pointer (some ⟨g, 0, none⟩)) rfl (by kernel_rfl) (by kernel_rfl) (by kernel_rfl) (fun _ _ _ h => h) (Or.inl ⟨by rfl, ?_⟩) hHeld ?_
              · intro W hSw; subst hSw; first | (go_simp; done) | (go_simp; omega) | (go_simp; rw [wtl, if_pos ⟨tm0, tmz⟩]; try rfl) | (go_simp; simpa using HGB.out) | (go_simp; with_reducible rfl)
              try simp only [Act.put, List.setIfInBounds_toArray, List.set_cons_zero, List.set_cons_succ]
              refine wpAnyH_take (i := 9) (oi := ⟨some 26, .nilCheck (.tmp 25), 0, "ref.go:275", #[⟨8, .data⟩, ⟨2, .guard⟩], some (2, true)⟩) (v := .pointer (some ⟨g, 0, none⟩)) rfl (by kernel_rfl) (by kernel_rfl) (by kernel_rfl) (fun _ _ _ h => h) (Or.inl ⟨by rfl, ?_⟩) hHeld ?_
              · intro W hSw; subst hSw; first | (go_simp; done) | (go_simp; omega) | (go_simp; rw [wtl, if_pos ⟨tm0, tmz⟩]; try rfl) | (go_simp; simpa using HGB.out) | (go_simp; with_reducible rfl)
              try simp only [Act.put, List.setIfInBounds_toArray, List.set_cons_zero, List.set_cons_succ]
              refine wpAnyH_take (i := 10) (oi := ⟨some 27, .fieldAddr 28 (.tmp 26) 0, 0, "ref.go:275", #[⟨9, .data⟩, ⟨2, .guard⟩], some (2, true)⟩) (v := .pointer (some ⟨g, 0, none⟩)) rfl (by kernel_rfl) (by kernel_rfl) (by kernel_rfl) (fun _ _ _ h => h) (Or.inl ⟨by rfl, ?_⟩) hHeld ?_
              · intro W hSw; subst hSw; first | (go_simp; done) | (go_simp; omega) | (go_simp; rw [wtl, if_pos ⟨tm0, tmz⟩]; try rfl) | (go_simp; simpa using HGB.out) | (go_simp; with_reducible rfl)
              try simp only [Act.put, List.setIfInBounds_toArray, List.set_cons_zero, List.set_cons_succ]
              refine wpAnyH_take (i := 11) (oi := ⟨some 28, .load 26 (.tmp 27), 26, "ref.go:275", #[⟨10, .data⟩, ⟨2, .guard⟩], some (2, true)⟩) (v := .slice (some ⟨h, 0, none⟩) n c) rfl (by kernel_rfl) (by kernel_rfl) (by kernel_rfl) (fun _ _ _ h => h) (Or.inl ⟨by rfl, ?_⟩) hHeld ?_
              · intro W hSw; subst hSw; first | (go_simp; done) | (go_simp; omega) | (go_simp; rw [wtl, if_pos ⟨tm0, tmz⟩]; try rfl) | (go_simp; simpa using HGB.out) | (go_simp; with_reducible rfl)
              try simp only [Act.put, List.setIfInBounds_toArray, List.set_cons_zero, List.set_cons_succ]
              refine wpAnyH_take (i := 12) (oi := ⟨some 29, .move (.tmp 4), 3, "ref.go:275", #[⟨2, .guard⟩], some (2, true)⟩) (v := .int .i64 (k : Int)) rfl (by kernel_rfl) (by kernel_rfl) (by kernel_rfl) (fun _ _ _ h => h) (Or.inl ⟨by rfl, ?_⟩) hHeld ?_
              · intro W hSw; subst hSw; first | (go_simp; done) | (go_simp; omega) | (go_simp; rw [wtl, if_pos ⟨tm0, tmz⟩]; try rfl) | (go_simp; simpa using HGB.out) | (go_simp; with_reducible rfl)
              try simp only [Act.put, List.setIfInBounds_toArray, List.set_cons_zero, List.set_cons_succ]
              refine wpAnyH_take (i := 13) (oi := ⟨some 30, .indexAddr 26 (.tmp 28) (.tmp 29), 0, "ref.go:275", #[⟨11, .data⟩, ⟨12, .data⟩, ⟨2, .guard⟩], some (2, true)⟩) (v := .pointer (some ⟨h, k * 2, none⟩)) rfl (by kernel_rfl) (by kernel_rfl) (by kernel_rfl) (fun _ _ _ h => h) (Or.inl ⟨by rfl, ?_⟩) hHeld ?_
              · intro W hSw; subst hSw; first | (go_simp; done) | (go_simp; omega) | (go_simp; rw [wtl, if_pos ⟨tm0, tmz⟩]; try rfl) | (go_simp; simpa using HGB.out) | (go_simp; with_reducible rfl)
              try simp only [Act.put, List.setIfInBounds_toArray, List.set_cons_zero, List.set_cons_succ]
              refine wpAnyH_take (i := 14) (oi := ⟨some 31, .fieldAddr 54 (.tmp 30) 0, 0, "ref.go:275", #[⟨13, .data⟩, ⟨2, .guard⟩], some (2, true)⟩) (v := .pointer (some ⟨h, k * 2, none⟩)) rfl (by kernel_rfl) (by kernel_rfl) (by kernel_rfl) (fun _ _ _ h => h) (Or.inl ⟨by rfl, ?_⟩) hHeld ?_
              · intro W hSw; subst hSw; first | (go_simp; done) | (go_simp; omega) | (go_simp; rw [wtl, if_pos ⟨tm0, tmz⟩]; try rfl) | (go_simp; simpa using HGB.out) | (go_simp; with_reducible rfl)
              try simp only [Act.put, List.setIfInBounds_toArray, List.set_cons_zero, List.set_cons_succ]
              refine wpAnyH_take (i := 15) (oi := ⟨some 32, .load 9 (.tmp 31), 9, "ref.go:275", #[⟨14, .data⟩, ⟨2, .guard⟩], some (2, true)⟩) (v := .string nm) rfl (by kernel_rfl) (by kernel_rfl) (by kernel_rfl) (fun _ _ _ h => h) (Or.inl ⟨by rfl, ?_⟩) hHeld ?_
              · intro W hSw; subst hSw; first | (go_simp; done) | (go_simp; omega) | (go_simp; rw [wtl, if_pos ⟨tm0, tmz⟩]; try rfl) | (go_simp; simpa using HGB.out) | (go_simp; with_reducible rfl)
              try simp only [Act.put, List.setIfInBounds_toArray, List.set_cons_zero, List.set_cons_succ]
              refine wpAnyH_take (i := 16) (oi := ⟨some 33, .binOp .gtr 9 (.tmp 24) (.tmp 32) 9, 4, "ref.go:275", #[⟨7, .data⟩, ⟨15, .data⟩, ⟨2, .guard⟩], some (2, true)⟩) (v := .bool true) rfl (by kernel_rfl) (by kernel_rfl) (by kernel_rfl) (fun _ _ _ h => h) (Or.inl ⟨by rfl, ?_⟩) hHeld ?_
              · intro W hSw; subst hSw; first | (go_simp; done) | (go_simp; omega) | (go_simp; rw [wtl, if_pos ⟨tm0, tmz⟩]; try rfl) | (go_simp; simpa using HGB.out) | (go_simp; with_reducible rfl)
              try simp only [Act.put, List.setIfInBounds_toArray, List.set_cons_zero, List.set_cons_succ]
              refine wpAnyH_take (i := 17) (oi := ⟨some 34, .pick (.tmp 19) (.tmp 33) (.const (.bool false)), 4, "ref.go:275", #[⟨2, .data⟩, ⟨16, .data⟩], none⟩) (v := .bool true) rfl (by kernel_rfl) (by kernel_rfl) (by kernel_rfl) (fun _ _ _ h => h) (Or.inl ⟨by rfl, ?_⟩) hHeld ?_
              · intro W hSw; subst hSw; first | (go_simp; done) | (go_simp; omega) | (go_simp; rw [wtl, if_pos ⟨tm0, tmz⟩]; try rfl) | (go_simp; simpa using HGB.out) | (go_simp; with_reducible rfl)
              try simp only [Act.put, List.setIfInBounds_toArray, List.set_cons_zero, List.set_cons_succ]
              refine wpAnyH_done (by kernel_rfl) ?_ _
              go_wp2_with fail
              go_roundw
              case rel => exact ⟨tm, by have := HT.out; have := TM.out; omega, by go_num, fun i hi hti => by
                by_cases x : i = tm
                · subst x
                  have e := TM.out
                  have : nm.data.toList < ss[t - 1]'(by omega) := by rw [← OM.out]; exact HCM.out
                  simpa [e] using this
                · exact T1.out i hi (by have := TM.out; have := H0.out; omega), BWI.out.drew⟩
              case measure => simp [intOf]; have := TM.out; have := H0.out; omega
            · have dc := decide_eq_false hcmp
              have HGB := Lib.hid ((gtr_is om nm).trans dc)
              have LO : Hid (∀ (h0 : t - 1 < ss.length), 0 < t → ¬ nm.data.toList < ss[t - 1]) := fun _ _ x => hcmp (by rw [OM.out]; exact x)
              clear dc hcmp htm hgt
              have hs1 : ∀ W : World, (Instr.slice 35 (.slice (some (⟨gb, 0, none⟩ : Addr)) z cv) none (some (.int .i64 (t : Int))) none).run Try.prog W = .ok (.slice (some (⟨gb, 0, none⟩ : Addr)) t cv) W := fun W => str_to W (some (⟨gb, 0, none⟩ : Addr)) z cv t (Nat.le_trans HT.out ZC.out)
              obtain ⟨A2, hA2⟩ : ∃ A2, (if cv = t then (some (⟨gb, 0, none⟩ : Addr)) else (some (⟨gb, 0, none⟩ : Addr)).map (·.add t)) = A2 := ⟨_, rfl⟩
              obtain ⟨c2, hc2⟩ : ∃ c2, cv - t = c2 := ⟨_, rfl⟩
              obtain ⟨zt, hzt⟩ : ∃ zt, z - t = zt := ⟨_, rfl⟩
              have hs2 : ∀ W : World, (Instr.slice 35 (.slice (some (⟨gb, 0, none⟩ : Addr)) z cv) (some (.int .i64 (t : Int))) none none).run Try.prog W = .ok (.slice A2 zt c2) W := fun W => by
                have := str_from W (some (⟨gb, 0, none⟩ : Addr)) z cv t HT.out ZC.out
                rw [hA2, hc2, hzt] at this
                exact this
              have HZT := Lib.hid hzt
              have PS : Hid ((ss.take t ++ nm.data.toList :: ss.drop t).Perm ((TabM.names M).take (k + 1)) ∧ (ss.take t ++ nm.data.toList :: ss.drop t).Pairwise (· ≤ ·)) := by
                have e : (TabM.names M).take (k + 1) = (TabM.names M).take k ++ [nm.data.toList] := by
                  rw [List.take_add_one, NM.out]
                  unfold TabM.names
                  rw [List.getElem?_map, List.getElem?_eq_getElem HKL.out]
                  rfl
                rw [e]
                exact ⟨ins_perm P1.out, ins_sorted (by have := HT.out; have := HZ.out; omega) S1.out LO.out T1.out⟩
              have HA20 : Hid (A2 = none → c2 = 0) := fun e => by
                rw [← hA2] at e
                rw [← hc2]
                split at e
                · rename_i q; omega
                · simp at e
              have NEW1 : Hid (∀ W, Below wi.heap.size wi W → ∀ j u, ((ss.take t).map sv)[j]? = some u → ∃ ad, (some (⟨gb, 0, none⟩ : Addr)) = some ad ∧ W.cell? (ad.add j) = some u) := fun W hb j u hu => by
                have hj := (List.getElem?_eq_some_iff.1 hu).1
                rw [List.length_map, List.length_take] at hj
                obtain ⟨p, e, hp, hc⟩ := SRI.out.at_ j (by omega)
                refine ⟨p, e, ?_⟩
                rw [hb.cell (p := p.add j) (by rw [add_block]; exact hp), hc, ← hu, List.getElem?_map, List.getElem?_take, if_pos (by omega), List.getElem?_eq_getElem (by omega)]
                rfl
              have NEW2 : Hid (∀ W, Below wi.heap.size wi W → ∀ j u, ((ss.drop t).map sv)[j]? = some u → ∃ ad, A2 = some ad ∧ W.cell? (ad.add j) = some u) := fun W hb j u hu => by
                have hj := (List.getElem?_eq_some_iff.1 hu).1
                rw [List.length_map, List.length_drop] at hj
                obtain ⟨p, e, hp, hc⟩ := SRI.out.at_ (t + j) (by omega)
                have ne : cv ≠ t := by have := ZC.out; have := HZ.out; omega
                refine ⟨p.add t, by rw [← hA2, if_neg ne, e]; rfl, ?_⟩
                rw [add_add, hb.cell (p := p.add (t + j)) (by rw [add_block]; exact hp), hc, ← hu, List.getElem?_map, List.getElem?_drop, List.getElem?_eq_getElem (by omega)]
                rfl
              clear hA2 hc2 hzt
              clear h0
              go_wp2_with fail
              refine wp_region_held_drew (S := fun W => W = wi.drew) (by kernel_rfl) rfl (fun hHeld => ?_)
              refine wpAnyH_take (i := 0) (oi := ⟨some 17, .move (.tmp 5), 3, "ref.go:275", #[], none⟩) (v := .int .i64 (t : Int)) rfl (by kernel_rfl) (by kernel_rfl) (by kernel_rfl) (fun _ _ _ h => h) (Or.inl ⟨by rfl, ?_⟩) hHeld ?_
              · intro W hSw; subst hSw; first | (go_simp; done) | (go_simp; omega) | (go_simp; rw [wtl, if_pos ⟨tm0, tmz⟩]; try rfl) | (go_simp; simpa using HGB.out) | (go_simp; with_reducible rfl)
              try simp only [Act.put, List.setIfInBounds_toArray, List.set_cons_zero, List.set_cons_succ]
              refine wpAnyH_take (i := 1) (oi := ⟨some 18, .binOp .gtr 3 (.tmp 17) (.const (.int .i64 0)) 3, 4, "ref.go:275", #[⟨0, .data⟩], none⟩) (v := .bool true) rfl (by kernel_rfl) (by kernel_rfl) (by kernel_rfl) (fun _ _ _ h => h) (Or.inl ⟨by rfl, ?_⟩) hHeld ?_
              · intro W hSw; subst hSw; first | (go_simp; done) | (go_simp; omega) | (go_simp; rw [wtl, if_pos ⟨tm0, tmz⟩]; try rfl) | (go_simp; simpa using HGB.out) | (go_simp; with_reducible rfl)
              try simp only [Act.put, List.setIfInBounds_toArray, List.set_cons_zero, List.set_cons_succ]
              refine wpAnyH_take (i := 2) (oi := ⟨some 19, .move (.tmp 18), 4, "ref.go:275", #[⟨1, .data⟩], none⟩) (v := .bool true) rfl (by kernel_rfl) (by kernel_rfl) (by kernel_rfl) (fun _ _ _ h => h) (Or.inl ⟨by rfl, ?_⟩) hHeld ?_
              · intro W hSw; subst hSw; first | (go_simp; done) | (go_simp; omega) | (go_simp; rw [wtl, if_pos ⟨tm0, tmz⟩]; try rfl) | (go_simp; simpa using HGB.out) | (go_simp; with_reducible rfl)
              try simp only [Act.put, List.setIfInBounds_toArray, List.set_cons_zero, List.set_cons_succ]
              refine wpAnyH_take (i := 3) (oi := ⟨some 20, .move (.tmp 3), 35, "ref.go:275", #[⟨2, .guard⟩], some (2, true)⟩) (v := .slice (some ⟨gb, 0, none⟩) z cv) rfl (by kernel_rfl) (by kernel_rfl) (by kernel_rfl) (fun _ _ _ h => h) (Or.inl ⟨by rfl, ?_⟩) hHeld ?_
              · intro W hSw; subst hSw; first | (go_simp; done) | (go_simp; omega) | (go_simp; rw [wtl, if_pos ⟨tm0, tmz⟩]; try rfl) | (go_simp; simpa using HGB.out) | (go_simp; with_reducible rfl)
              try simp only [Act.put, List.setIfInBounds_toArray, List.set_cons_zero, List.set_cons_succ]
              refine wpAnyH_take (i := 4) (oi := ⟨some 21, .move (.tmp 5), 3, "ref.go:275", #[⟨2, .guard⟩], some (2, true)⟩) (v := .int .i64 (t : Int)) rfl (by kernel_rfl) (by kernel_rfl) (by kernel_rfl) (fun _ _ _ h => h) (Or.inl ⟨by rfl, ?_⟩) hHeld ?_
              · intro W hSw; subst hSw; first | (go_simp; done) | (go_simp; omega) | (go_simp; rw [wtl, if_pos ⟨tm0, tmz⟩]; try rfl) | (go_simp; simpa using HGB.out) | (go_simp; with_reducible rfl)
              try simp only [Act.put, List.setIfInBounds_toArray, List.set_cons_zero, List.set_cons_succ]
              refine wpAnyH_take (i := 5) (oi := ⟨some 22, .binOp .sub 3 (.tmp 21) (.const (.int .i64 1)) 3, 3, "ref.go:275", #[⟨4, .data⟩, ⟨2, .guard⟩], some (2, true)⟩) (v := .int .i64 (tm : Int)) rfl (by kernel_rfl) (by kernel_rfl) (by kernel_rfl) (fun _ _ _ h => h) (Or.inl ⟨by rfl, ?_⟩) hHeld ?_
              · intro W hSw; subst hSw; first | (go_simp; done) | (go_simp; omega) | (go_simp; rw [wtl, if_pos ⟨tm0, tmz⟩]; try rfl) | (go_simp; simpa using HGB.out) | (go_simp; with_reducible rfl)
              try simp only [Act.put, List.setIfInBounds_toArray, List.set_cons_zero, List.set_cons_succ]
              refine wpAnyH_take (i := 6) (oi := ⟨some 23, .indexAddr 35 (.tmp 20) (.tmp 22), 0, "ref.go:275", #[⟨3, .data⟩, ⟨5, .data⟩, ⟨2, .guard⟩], some (2, true)⟩) (v := .pointer (some ⟨gb, tm, none⟩)) rfl (by kernel_rfl) (by kernel_rfl) (by kernel_rfl) (fun _ _ _ h => h) (Or.inl ⟨by rfl, ?_⟩) hHeld ?_
              · intro W hSw; subst hSw; first | (go_simp; done) | (go_simp; omega) | (go_simp; rw [wtl, if_pos ⟨tm0, tmz⟩]; try rfl) | (go_simp; simpa using HGB.out) | (go_simp; with_reducible rfl)
              try simp only [Act.put, List.setIfInBounds_toArray, List.set_cons_zero, List.set_cons_succ]
              refine wpAnyH_take (i := 7) (oi := ⟨some 24, .load 9 (.tmp 23), 9, "ref.go:275", #[⟨6, .data⟩, ⟨2, .guard⟩], some (2, true)⟩) (v := .string om) rfl (by kernel_rfl) (by kernel_rfl) (by kernel_rfl) (fun _ _ _ h => h) (Or.inl ⟨by rfl, ?_⟩) hHeld ?_
              · intro W hSw; subst hSw; first | (go_simp; done) | (go_simp; omega) | (go_simp; rw [wtl, if_pos ⟨tm0, tmz⟩]; try rfl) | (go_simp; simpa using HGB.out) | (go_simp; with_reducible rfl)
              try simp only [Act.put, List.setIfInBounds_toArray, List.set_cons_zero, List.set_cons_succ]
              refine wpAnyH_take (i := 8) (oi := ⟨some 25, .move (.tmp 0), 25, "ref.go:275", #[⟨2, .guard⟩], some (2, true)⟩) (v := .pointer (some ⟨g, 0, none⟩)) rfl (by kernel_rfl) (by kernel_rfl) (by kernel_rfl) (fun _ _ _ h => h) (Or.inl ⟨by rfl, ?_⟩) hHeld ?_
              · intro W hSw; subst hSw; first | (go_simp; done) | (go_simp; omega) | (go_simp; rw [wtl, if_pos ⟨tm0, tmz⟩]; try rfl) | (go_simp; simpa using HGB.out) | (go_simp; with_reducible rfl)
              try simp only [Act.put, List.setIfInBounds_toArray, List.set_cons_zero, List.set_cons_succ]
              refine wpAnyH_take (i := 9) (oi := ⟨some 26, .nilCheck (.tmp 25), 0, "ref.go:275", #[⟨8, .data⟩, ⟨2, .guard⟩], some (2, true)⟩) (v := .pointer (some ⟨g, 0, none⟩)) rfl (by kernel_rfl) (by kernel_rfl) (by kernel_rfl) (fun _ _ _ h => h) (Or.inl ⟨by rfl, ?_⟩) hHeld ?_
              · intro W hSw; subst hSw; first | (go_simp; done) | (go_simp; omega) | (go_simp; rw [wtl, if_pos ⟨tm0, tmz⟩]; try rfl) | (go_simp; simpa using HGB.out) | (go_simp; with_reducible rfl)
              try simp only [Act.put, List.setIfInBounds_toArray, List.set_cons_zero, List.set_cons_succ]
              refine wpAnyH_take (i := 10) (oi := ⟨some 27, .fieldAddr 28 (.tmp 26) 0, 0, "ref.go:275", #[⟨9, .data⟩, ⟨2, .guard⟩], some (2, true)⟩) (v := .pointer (some ⟨g, 0, none⟩)) rfl (by kernel_rfl) (by kernel_rfl) (by kernel_rfl) (fun _ _ _ h => h) (Or.inl ⟨by rfl, ?_⟩) hHeld ?_
              · intro W hSw; subst hSw; first | (go_simp; done) | (go_simp; omega) | (go_simp; rw [wtl, if_pos ⟨tm0, tmz⟩]; try rfl) | (go_simp; simpa using HGB.out) | (go_simp; with_reducible rfl)
              try simp only [Act.put, List.setIfInBounds_toArray, List.set_cons_zero, List.set_cons_succ]
              refine wpAnyH_take (i := 11) (oi := ⟨some 28, .load 26 (.tmp 27), 26, "ref.go:275", #[⟨10, .data⟩, ⟨2, .guard⟩], some (2, true)⟩) (v := .slice (some ⟨h, 0, none⟩) n c) rfl (by kernel_rfl) (by kernel_rfl) (by kernel_rfl) (fun _ _ _ h => h) (Or.inl ⟨by rfl, ?_⟩) hHeld ?_
              · intro W hSw; subst hSw; first | (go_simp; done) | (go_simp; omega) | (go_simp; rw [wtl, if_pos ⟨tm0, tmz⟩]; try rfl) | (go_simp; simpa using HGB.out) | (go_simp; with_reducible rfl)
              try simp only [Act.put, List.setIfInBounds_toArray, List.set_cons_zero, List.set_cons_succ]
              refine wpAnyH_take (i := 12) (oi := ⟨some 29, .move (.tmp 4), 3, "ref.go:275", #[⟨2, .guard⟩], some (2, true)⟩) (v := .int .i64 (k : Int)) rfl (by kernel_rfl) (by kernel_rfl) (by kernel_rfl) (fun _ _ _ h => h) (Or.inl ⟨by rfl, ?_⟩) hHeld ?_
              · intro W hSw; subst hSw; first | (go_simp; done) | (go_simp; omega) | (go_simp; rw [wtl, if_pos ⟨tm0, tmz⟩]; try rfl) | (go_simp; simpa using HGB.out) | (go_simp; with_reducible rfl)
              try simp only [Act.put, List.setIfInBounds_toArray, List.set_cons_zero, List.set_cons_succ]
              refine wpAnyH_take (i := 13) (oi := ⟨some 30, .indexAddr 26 (.tmp 28) (.tmp 29), 0, "ref.go:275", #[⟨11, .data⟩, ⟨12, .data⟩, ⟨2, .guard⟩], some (2, true)⟩) (v := .pointer (some ⟨h, k * 2, none⟩)) rfl (by kernel_rfl) (by kernel_rfl) (by kernel_rfl) (fun _ _ _ h => h) (Or.inl ⟨by rfl, ?_⟩) hHeld ?_
              · intro W hSw; subst hSw; first | (go_simp; done) | (go_simp; omega) | (go_simp; rw [wtl, if_pos ⟨tm0, tmz⟩]; try rfl) | (go_simp; simpa using HGB.out) | (go_simp; with_reducible rfl)
              try simp only [Act.put, List.setIfInBounds_toArray, List.set_cons_zero, List.set_cons_succ]
              refine wpAnyH_take (i := 14) (oi := ⟨some 31, .fieldAddr 54 (.tmp 30) 0, 0, "ref.go:275", #[⟨13, .data⟩, ⟨2, .guard⟩], some (2, true)⟩) (v := .pointer (some ⟨h, k * 2, none⟩)) rfl (by kernel_rfl) (by kernel_rfl) (by kernel_rfl) (fun _ _ _ h => h) (Or.inl ⟨by rfl, ?_⟩) hHeld ?_
              · intro W hSw; subst hSw; first | (go_simp; done) | (go_simp; omega) | (go_simp; rw [wtl, if_pos ⟨tm0, tmz⟩]; try rfl) | (go_simp; simpa using HGB.out) | (go_simp; with_reducible rfl)
              try simp only [Act.put, List.setIfInBounds_toArray, List.set_cons_zero, List.set_cons_succ]
              refine wpAnyH_take (i := 15) (oi := ⟨some 32, .load 9 (.tmp 31), 9, "ref.go:275", #[⟨14, .data⟩, ⟨2, .guard⟩], some (2, true)⟩) (v := .string nm) rfl (by kernel_rfl) (by kernel_rfl) (by kernel_rfl) (fun _ _ _ h => h) (Or.inl ⟨by rfl, ?_⟩) hHeld ?_
              · intro W hSw; subst hSw; first | (go_simp; done) | (go_simp; omega) | (go_simp; rw [wtl, if_pos ⟨tm0, tmz⟩]; try rfl) | (go_simp; simpa using HGB.out) | (go_simp; with_reducible rfl)
              try simp only [Act.put, List.setIfInBounds_toArray, List.set_cons_zero, List.set_cons_succ]
              refine wpAnyH_take (i := 16) (oi := ⟨some 33, .binOp .gtr 9 (.tmp 24) (.tmp 32) 9, 4, "ref.go:275", #[⟨7, .data⟩, ⟨15, .data⟩, ⟨2, .guard⟩], some (2, true)⟩) (v := .bool false) rfl (by kernel_rfl) (by kernel_rfl) (by kernel_rfl) (fun _ _ _ h => h) (Or.inl ⟨by rfl, ?_⟩) hHeld ?_
              · intro W hSw; subst hSw; first | (go_simp; done) | (go_simp; omega) | (go_simp; rw [wtl, if_pos ⟨tm0, tmz⟩]; try rfl) | (go_simp; simpa using HGB.out) | (go_simp; with_reducible rfl)
              try simp only [Act.put, List.setIfInBounds_toArray, List.set_cons_zero, List.set_cons_succ]
              refine wpAnyH_take (i := 17) (oi := ⟨some 34, .pick (.tmp 19) (.tmp 33) (.const (.bool false)), 4, "ref.go:275", #[⟨2, .data⟩, ⟨16, .data⟩], none⟩) (v := .bool false) rfl (by kernel_rfl) (by kernel_rfl) (by kernel_rfl) (fun _ _ _ h => h) (Or.inl ⟨by rfl, ?_⟩) hHeld ?_
              · intro W hSw; subst hSw; first | (go_simp; done) | (go_simp; omega) | (go_simp; rw [wtl, if_pos ⟨tm0, tmz⟩]; try rfl) | (go_simp; simpa using HGB.out) | (go_simp; with_reducible rfl)
              try simp only [Act.put, List.setIfInBounds_toArray, List.set_cons_zero, List.set_cons_succ]
              refine wpAnyH_done (by kernel_rfl) ?_ _
              have q0 : Below wi.heap.size wi wi.drew := (Below.refl _ wi).drew
              have BW2 : Hid (Below w.heap.size w wi.drew) := BI.out.drew
              have SR2 : Hid (SRow wi.drew (some (⟨gb, 0, none⟩ : Addr)) z cv ss) := SRI.out.later q0
              have d0' : wi.drew.cell? ⟨g, 0, none⟩ = some (.slice (some ⟨h, 0, none⟩) n c) := d0
              have f1' : wi.drew.cell? ⟨h, k * 2, none⟩ = some (.string nm) := f1
              obtain ⟨wr2, hw2⟩ : ∃ wr2, wi.drew = wr2 := ⟨_, rfl⟩
              rw [hw2] at BW2 SR2 d0' f1' ⊢
              have NEW1' : Hid (∀ W, Below wr2.heap.size wr2 W → ∀ j u, ((ss.take t).map sv)[j]? = some u → ∃ ad, (some (⟨gb, 0, none⟩ : Addr)) = some ad ∧ W.cell? (ad.add j) = some u) := fun W hb => NEW1.out W (((Below.refl _ wi).drew).trans (by rw [← hw2] at hb; exact hb))
              have NEW2' : Hid (∀ W, Below wr2.heap.size wr2 W → ∀ j u, ((ss.drop t).map sv)[j]? = some u → ∃ ad, A2 = some ad ∧ W.cell? (ad.add j) = some u) := fun W hb => NEW2.out W (((Below.refl _ wi).drew).trans (by rw [← hw2] at hb; exact hb))
              replace NEW1 := NEW1'
              replace NEW2 := NEW2'
              replace d0 := d0'
              replace f1 := f1'
              clear hw2 q0
              go_wp2_with fail
              refine wp_region_tail_list (S := fun W => Below wr2.heap.size wr2 W ∧ W.cell? ⟨g, 0, none⟩ = some (.slice (some ⟨h, 0, none⟩) n c) ∧ W.cell? ⟨h, k * 2, none⟩ = some (.string nm)) (by simp) (by kernel_rfl) (by kernel_rfl) ⟨(Below.refl _ _).drew, d0, f1⟩ (fun hHeld => ?_)
              simp only [List.dropLast_cons_cons, List.dropLast_singleton, List.getLast_cons_cons, List.getLast_singleton, List.length_cons, List.length_nil, Nat.reduceAdd]
              refine wpAnyH_take (i := 1) (v := ?_) rfl (by kernel_rfl) (by kernel_rfl) (by kernel_rfl) (fun _ _ _ h => h) (Or.inl ⟨by rfl, ?_⟩) hHeld ?_
              rotate_left
              · intro W hSw; obtain ⟨hb, hcell, hnmc⟩ := hSw; go_simp; try with_reducible rfl
              refine wpAnyH_take (i := 2) (v := ?_) rfl (by kernel_rfl) (by kernel_rfl) (by kernel_rfl) (fun _ _ _ h => h) (Or.inl ⟨by rfl, ?_⟩) hHeld ?_
              rotate_left
              · intro W hSw; obtain ⟨hb, hcell, hnmc⟩ := hSw; go_simp; try with_reducible rfl
              refine wpAnyH_take (i := 3) (v := ?_) rfl (by kernel_rfl) (by kernel_rfl) (by kernel_rfl) (fun _ _ _ h => h) (Or.inl ⟨by rfl, ?_⟩) hHeld ?_
              rotate_left
              · intro W hSw; obtain ⟨hb, hcell, hnmc⟩ := hSw; go_simp; try with_reducible rfl
              refine wpAnyH_take (i := 5) (v := ?_) rfl (by kernel_rfl) (by kernel_rfl) (by kernel_rfl) (fun _ _ _ h => h) (Or.inl ⟨by rfl, ?_⟩) hHeld ?_
              rotate_left
              · intro W hSw; obtain ⟨hb, hcell, hnmc⟩ := hSw; go_simp; try with_reducible rfl
              refine wpAnyH_take (i := 6) (v := ?_) rfl (by kernel_rfl) (by kernel_rfl) (by kernel_rfl) (fun _ _ _ h => h) (Or.inl ⟨by rfl, ?_⟩) hHeld ?_
              rotate_left
              · intro W hSw; obtain ⟨hb, hcell, hnmc⟩ := hSw; go_simp; try with_reducible rfl
              refine wpAnyH_take (i := 7) (v := ?_) rfl (by kernel_rfl) (by kernel_rfl) (by kernel_rfl) (fun _ _ _ h => h) (Or.inl ⟨by rfl, ?_⟩) hHeld ?_
              rotate_left
              · intro W hSw; obtain ⟨hb, hcell, hnmc⟩ := hSw; go_simp; try with_reducible rfl
              refine wpAnyH_take (i := 8) (v := ?_) rfl (by kernel_rfl) (by kernel_rfl) (by kernel_rfl) (fun _ _ _ h => h) (Or.inl ⟨by rfl, ?_⟩) hHeld ?_
              rotate_left
              · intro W hSw; obtain ⟨hb, hcell, hnmc⟩ := hSw; go_simp; try with_reducible rfl
              refine wpAnyH_take (i := 9) (v := ?_) rfl (by kernel_rfl) (by kernel_rfl) (by kernel_rfl) (fun _ _ _ h => h) (Or.inl ⟨by rfl, ?_⟩) hHeld ?_
              rotate_left
              · intro W hSw; obtain ⟨hb, hcell, hnmc⟩ := hSw; go_simp; try with_reducible rfl
              refine wpAnyH_take (i := 10) (v := ?_) rfl (by kernel_rfl) (by kernel_rfl) (by kernel_rfl) (fun _ _ _ h => h) (Or.inl ⟨by rfl, ?_⟩) hHeld ?_
              rotate_left
              · intro W hSw; obtain ⟨hb, hcell, hnmc⟩ := hSw; go_simp; try with_reducible rfl
              refine wpAnyH_take (i := 11) (v := ?_) rfl (by kernel_rfl) (by kernel_rfl) (by kernel_rfl) (fun _ _ _ h => h) (Or.inl ⟨by rfl, ?_⟩) hHeld ?_
              rotate_left
              · intro W hSw; obtain ⟨hb, hcell, hnmc⟩ := hSw; go_simp; try with_reducible rfl
              refine wpAnyH_take (i := 12) (v := ?_) rfl (by kernel_rfl) (by kernel_rfl) (by kernel_rfl) (fun _ _ _ h => h) (Or.inl ⟨by rfl, ?_⟩) hHeld ?_
              rotate_left
              · intro W hSw; obtain ⟨hb, hcell, hnmc⟩ := hSw; go_simp; try with_reducible rfl
              refine wpAnyH_take (i := 15) (v := ?_) rfl (by kernel_rfl) (by kernel_rfl) (by kernel_rfl) (fun _ _ _ h => h) (Or.inl ⟨by rfl, ?_⟩) hHeld ?_
              rotate_left
              · intro W hSw; obtain ⟨hb, hcell, hnmc⟩ := hSw; go_simp; try with_reducible rfl
              refine wpAnyH_take (i := 16) (v := ?_) rfl (by kernel_rfl) (by kernel_rfl) (by kernel_rfl) (fun _ _ _ h => h) (Or.inl ⟨by rfl, ?_⟩) hHeld ?_
              rotate_left
              · intro W hSw; obtain ⟨hb, hcell, hnmc⟩ := hSw; go_simp; try with_reducible rfl
              refine wpAnyH_take (i := 17) (v := ?_) rfl (by kernel_rfl) (by kernel_rfl) (by kernel_rfl) (fun _ _ _ h => h) (Or.inl ⟨by rfl, ?_⟩) hHeld ?_
              rotate_left
              · intro W hSw; obtain ⟨hb, hcell, hnmc⟩ := hSw; go_simp; try with_reducible rfl
              refine wpAnyH_ready (rs := [0, 13]) (by kernel_rfl) (by simp) ?_
              refine AllReadyH.cons rfl (fun K hK => ?_) (AllReadyH.cons rfl (fun K hK => ?_) AllReadyH.nil)
              · go_simp
                have bw0 : Below wr2.heap.size wr2 ((wr2.alloc (.cells #[] 9)).drew) := ((Below.refl _ wr2).alloc (Nat.le_refl _) _).drew
                refine hK.out _ _ ⟨bw0, by rw [bw0.cell (World.block_lt_of_cell? _ _ d0)]; exact d0, by rw [bw0.cell (World.block_lt_of_cell? _ _ f1)]; exact f1⟩ (fun hHeld0 => ?_)
                clear hK K hHeld
                refine wpAnyH_ready (rs := [4, 13]) (by kernel_rfl) (by simp) ?_
                refine AllReadyH.cons rfl (fun K hK => ?_) (AllReadyH.cons rfl (fun K hK => ?_) AllReadyH.nil)
                · refine step_append_strs rfl (.tmp 37) (.tmp 40) rfl wr2.heap.size _ 0 [] rfl ⟨rfl, .inr ⟨wr2.heap.size, 0, #[], rfl, Nat.le_refl _, heap_alloc_new _ _, Nat.le_refl _, Nat.zero_le _, rfl, rfl⟩⟩ (some (⟨gb, 0, none⟩ : Addr)) t cv (ss.take t) rfl (by rw [List.length_take, HZ.out]; have := HT.out; omega) SR2.out.nil (fun j u hu => NEW1.out _ bw0 j u hu) (by have := HT.out; have := Z9.out; omega) bw0.size ?_
                  intro v4 w4 own4 gr4 wh4
                  have bw4 : Below wr2.heap.size wr2 w4 := bw0.grown gr4 bw0.size fun j hj => by injection hj with hj; rw [← hj]; exact Nat.le_refl _
                  rw [List.nil_append, Nat.zero_add] at own4
                  refine hK.out _ _ ⟨bw4, by rw [bw4.cell (World.block_lt_of_cell? _ _ d0)]; exact d0, by rw [bw4.cell (World.block_lt_of_cell? _ _ f1)]; exact f1⟩ (fun hHeld4 => ?_)
                  clear hK K hHeld0
                  refine wpAnyH_ready (rs := [13]) (by kernel_rfl) (by simp) ?_
                  refine AllReadyH.cons rfl (fun K hK => ?_) AllReadyH.nil
                  go_simp
                  have bw13 : Below wr2.heap.size wr2 (w4.alloc (.cells #[.string nm] 9)) := bw4.alloc bw4.size _
                  refine hK.out _ _ ⟨bw13, by rw [bw13.cell (World.block_lt_of_cell? _ _ d0)]; exact d0, by rw [bw13.cell (World.block_lt_of_cell? _ _ f1)]; exact f1⟩ (fun hHeld13 => ?_)
                  clear hK K hHeld4
                  have own41 : (w4.alloc (.cells #[.string nm] 9)).ownsRow wr2.heap.size 9 1 v4 t ((ss.take t).map sv) := own4.alloc _
                  have cel : ∀ j u, ([nm.data.toList].map sv)[j]? = some u → (w4.alloc (.cells #[.string nm] 9)).cell? ((⟨w4.heap.size, 0, none⟩ : Addr).add j) = some u := cell_name w4 nm _ rfl _
                  refine wpAnyH_ready (rs := [14]) (by kernel_rfl) (by simp) ?_
                  refine AllReadyH.cons rfl (fun K hK => ?_) AllReadyH.nil
                  refine step_append_strs rfl (.tmp 41) (.tmp 50) rfl wr2.heap.size v4 t ((ss.take t).map sv) rfl own41 (some ⟨w4.heap.size, 0, none⟩) 1 1 [nm.data.toList] rfl rfl (fun e => nomatch e) (fun j u hu => ⟨_, rfl, cel j u hu⟩) (by have := HT.out; have := Z9.out; omega) bw13.size ?_
                  intro v14 w14 own14 gr14 wh14
                  have bw14 : Below wr2.heap.size wr2 w14 := bw13.grown gr14 bw13.size fun j hj => (own41.lt j hj).1
                  refine hK.out _ _ ⟨bw14, by rw [bw14.cell (World.block_lt_of_cell? _ _ d0)]; exact d0, by rw [bw14.cell (World.block_lt_of_cell? _ _ f1)]; exact f1⟩ (fun hHeld14 => ?_)
                  clear hK K hHeld13
                  refine wpAnyH_ready (rs := [18]) (by kernel_rfl) (by simp) ?_
                  refine AllReadyH.cons rfl (fun K hK => ?_) AllReadyH.nil
                  refine step_append_strs rfl (.tmp 51) (.tmp 54) rfl wr2.heap.size v14 (t + 1) ((ss.take t).map sv ++ [nm.data.toList].map sv) rfl own14 A2 zt c2 (ss.drop t) rfl (by rw [List.length_drop, HZ.out, HZT.out]) HA20.out (fun j u hu => NEW2.out _ bw14 j u hu) (by have := HT.out; have := Z9.out; have := HZT.out; omega) bw14.size ?_
                  intro v18 w18 own18 gr18 wh18
                  have bw18 : Below wr2.heap.size wr2 w18 := bw14.grown gr18 bw14.size fun j hj => (own14.lt j hj).1
                  refine hK.out _ _ ⟨bw18, by rw [bw18.cell (World.block_lt_of_cell? _ _ d0)]; exact d0, by rw [bw18.cell (World.block_lt_of_cell? _ _ f1)]; exact f1⟩ (fun hHeld18 => ?_)
                  clear hK K hHeld14
                  refine wpAnyH_done (by kernel_rfl) ?_ _
                  have OWN := Lib.hid (fin_row own18 (BW2.out.size) (by rw [List.length_append, List.length_cons, List.length_take, List.length_drop]; have := HZT.out; have := HZ.out; have := HT.out; omega))
                  have BFIN := Lib.hid (BW2.out.trans (bw18.mono BW2.out.size))
                  obtain ⟨A9, c9, rfl⟩ := row_slice own18
                  refine behind_normal (wpOp_step rfl (fun K hK => ?_))
                  clear own18 gr18 wh18 bw18 own14 gr14 wh14 bw14 hHeld18
                  go_simp
                  refine hK _ _ ?_
                  go_wp2_with fail
                  all_goals go_roundw
                  all_goals first
                    | exact ⟨k + 1, _, HLT.out, by go_num, OWN.out, PS.out.1, PS.out.2, BFIN.out⟩
                    | (simp [intOf]; have := HLT.out; omega)
                · go_simp
                  have bw13 : Below wr2.heap.size wr2 (((wr2.alloc (.cells #[] 9)).alloc (.cells #[.string nm] 9)).drew) := (((Below.refl _ wr2).alloc (Nat.le_refl _) _).alloc (by simp) _).drew
                  refine hK.out _ _ ⟨bw13, by rw [bw13.cell (World.block_lt_of_cell? _ _ d0)]; exact d0, by rw [bw13.cell (World.block_lt_of_cell? _ _ f1)]; exact f1⟩ (fun hHeld13 => ?_)
                  clear hK K hHeld0
                  refine wpAnyH_ready (rs := [4]) (by kernel_rfl) (by simp) ?_
                  refine AllReadyH.cons rfl (fun K hK => ?_) AllReadyH.nil
                  refine step_append_strs rfl (.tmp 37) (.tmp 40) rfl wr2.heap.size _ 0 [] rfl ⟨rfl, .inr ⟨wr2.heap.size, 0, #[], rfl, Nat.le_refl _, (heap_alloc_old _ _ (by simp)).trans (heap_alloc_new _ _), Nat.le_refl _, Nat.zero_le _, rfl, rfl⟩⟩ (some (⟨gb, 0, none⟩ : Addr)) t cv (ss.take t) rfl (by rw [List.length_take, HZ.out]; have := HT.out; omega) SR2.out.nil (fun j u hu => NEW1.out _ bw13 j u hu) (by have := HT.out; have := Z9.out; omega) bw13.size ?_
                  intro v4 w4 own4 gr4 wh4
                  have bw4 : Below wr2.heap.size wr2 w4 := bw13.grown gr4 bw13.size fun j hj => by injection hj with hj; rw [← hj]; exact Nat.le_refl _
                  rw [List.nil_append, Nat.zero_add] at own4
                  refine hK.out _ _ ⟨bw4, by rw [bw4.cell (World.block_lt_of_cell? _ _ d0)]; exact d0, by rw [bw4.cell (World.block_lt_of_cell? _ _ f1)]; exact f1⟩ (fun hHeld4 => ?_)
                  clear hK K hHeld13
                  have cel : ∀ j u, ([nm.data.toList].map sv)[j]? = some u → w4.cell? ((⟨wr2.heap.size + 1, 0, none⟩ : Addr).add j) = some u := fun j u hu => by
                    have e := cell_name (wr2.alloc (.cells #[] 9)) nm (wr2.heap.size + 1) (by simp) 9 j u hu
                    rw [add0] at e ⊢
                    exact gr4.cell e (fun x => by have x : some (wr2.heap.size + 1) = some wr2.heap.size := x; injection x with x; omega)
                  refine wpAnyH_ready (rs := [14]) (by kernel_rfl) (by simp) ?_
                  refine AllReadyH.cons rfl (fun K hK => ?_) AllReadyH.nil
                  refine step_append_strs rfl (.tmp 41) (.tmp 50) rfl wr2.heap.size v4 t ((ss.take t).map sv) rfl own4 (some ⟨wr2.heap.size + 1, 0, none⟩) 1 1 [nm.data.toList] rfl rfl (fun e => nomatch e) (fun j u hu => ⟨_, rfl, cel j u hu⟩) (by have := HT.out; have := Z9.out; omega) bw4.size ?_
                  intro v14 w14 own14 gr14 wh14
                  have bw14 : Below wr2.heap.size wr2 w14 := bw4.grown gr14 bw4.size fun j hj => (own4.lt j hj).1
                  refine hK.out _ _ ⟨bw14, by rw [bw14.cell (World.block_lt_of_cell? _ _ d0)]; exact d0, by rw [bw14.cell (World.block_lt_of_cell? _ _ f1)]; exact f1⟩ (fun hHeld14 => ?_)
                  clear hK K hHeld4
                  refine wpAnyH_ready (rs := [18]) (by kernel_rfl) (by simp) ?_
                  refine AllReadyH.cons rfl (fun K hK => ?_) AllReadyH.nil
                  refine step_append_strs rfl (.tmp 51) (.tmp 54) rfl wr2.heap.size v14 (t + 1) ((ss.take t).map sv ++ [nm.data.toList].map sv) rfl own14 A2 zt c2 (ss.drop t) rfl (by rw [List.length_drop, HZ.out, HZT.out]) HA20.out (fun j u hu => NEW2.out _ bw14 j u hu) (by have := HT.out; have := Z9.out; have := HZT.out; omega) bw14.size ?_
                  intro v18 w18 own18 gr18 wh18
                  have bw18 : Below wr2.heap.size wr2 w18 := bw14.grown gr18 bw14.size fun j hj => (own14.lt j hj).1
                  refine hK.out _ _ ⟨bw18, by rw [bw18.cell (World.block_lt_of_cell? _ _ d0)]; exact d0, by rw [bw18.cell (World.block_lt_of_cell? _ _ f1)]; exact f1⟩ (fun hHeld18 => ?_)
                  clear hK K hHeld14
                  refine wpAnyH_done (by kernel_rfl) ?_ _
                  have OWN := Lib.hid (fin_row own18 (BW2.out.size) (by rw [List.length_append, List.length_cons, List.length_take, List.length_drop]; have := HZT.out; have := HZ.out; have := HT.out; omega))
                  have BFIN := Lib.hid (BW2.out.trans (bw18.mono BW2.out.size))
                  obtain ⟨A9, c9, rfl⟩ := row_slice own18
                  refine behind_normal (wpOp_step rfl (fun K hK => ?_))
                  clear own18 gr18 wh18 bw18 own14 gr14 wh14 bw14 hHeld18
                  go_simp
                  refine hK _ _ ?_
                  go_wp2_with fail
                  all_goals go_roundw
                  all_goals first
                    | exact ⟨k + 1, _, HLT.out, by go_num, OWN.out, PS.out.1, PS.out.2, BFIN.out⟩
                    | (simp [intOf]; have := HLT.out; omega)
              · go_simp
                have bw13 : Below wr2.heap.size wr2 ((wr2.alloc (.cells #[.string nm] 9)).drew) := ((Below.refl _ wr2).alloc (Nat.le_refl _) _).drew
                refine hK.out _ _ ⟨bw13, by rw [bw13.cell (World.block_lt_of_cell? _ _ d0)]; exact d0, by rw [bw13.cell (World.block_lt_of_cell? _ _ f1)]; exact f1⟩ (fun hHeld13 => ?_)
                clear hK K hHeld
                refine wpAnyH_ready (rs := [0]) (by kernel_rfl) (by simp) ?_
                refine AllReadyH.cons rfl (fun K hK => ?_) AllReadyH.nil
                go_simp
                have bw0 : Below wr2.heap.size wr2 (((wr2.alloc (.cells #[.string nm] 9)).alloc (.cells #[] 9)).drew) := (((Below.refl _ wr2).alloc (Nat.le_refl _) _).alloc (by simp) _).drew
                refine hK.out _ _ ⟨bw0, by rw [bw0.cell (World.block_lt_of_cell? _ _ d0)]; exact d0, by rw [bw0.cell (World.block_lt_of_cell? _ _ f1)]; exact f1⟩ (fun hHeld0 => ?_)
                clear hK K hHeld13
                refine wpAnyH_ready (rs := [4]) (by kernel_rfl) (by simp) ?_
                refine AllReadyH.cons rfl (fun K hK => ?_) AllReadyH.nil
                refine step_append_strs rfl (.tmp 37) (.tmp 40) rfl wr2.heap.size _ 0 [] rfl ⟨rfl, .inr ⟨(wr2.heap.size + 1), 0, #[], rfl, Nat.le_succ _, heap_alloc2_new wr2 _ _, Nat.le_refl _, Nat.zero_le _, rfl, rfl⟩⟩ (some (⟨gb, 0, none⟩ : Addr)) t cv (ss.take t) rfl (by rw [List.length_take, HZ.out]; have := HT.out; omega) SR2.out.nil (fun j u hu => NEW1.out _ bw0 j u hu) (by have := HT.out; have := Z9.out; omega) bw0.size ?_
                intro v4 w4 own4 gr4 wh4
                have bw4 : Below wr2.heap.size wr2 w4 := bw0.grown gr4 bw0.size fun j hj => by injection hj with hj; rw [← hj]; exact Nat.le_succ _
                rw [List.nil_append, Nat.zero_add] at own4
                refine hK.out _ _ ⟨bw4, by rw [bw4.cell (World.block_lt_of_cell? _ _ d0)]; exact d0, by rw [bw4.cell (World.block_lt_of_cell? _ _ f1)]; exact f1⟩ (fun hHeld4 => ?_)
                clear hK K hHeld0
                have cel : ∀ j u, ([nm.data.toList].map sv)[j]? = some u → w4.cell? ((⟨wr2.heap.size, 0, none⟩ : Addr).add j) = some u := fun j u hu => by
                  have e := cell_name wr2 nm wr2.heap.size rfl 9 j u hu
                  rw [add0] at e ⊢
                  refine gr4.cell ?_ (fun x => by have x : some wr2.heap.size = some (wr2.heap.size + 1) := x; injection x with x; omega)
                  have q := ((Below.refl (wr2.alloc (.cells #[.string nm] 9)).heap.size (wr2.alloc (.cells #[.string nm] 9))).alloc (Nat.le_refl _) (.cells #[] 9)).cell (p := ⟨wr2.heap.size, j, none⟩) (by show wr2.heap.size < _; simp)
                  exact q.trans e
                refine wpAnyH_ready (rs := [14]) (by kernel_rfl) (by simp) ?_
                refine AllReadyH.cons rfl (fun K hK => ?_) AllReadyH.nil
                refine step_append_strs rfl (.tmp 41) (.tmp 50) rfl wr2.heap.size v4 t ((ss.take t).map sv) rfl own4 (some ⟨wr2.heap.size, 0, none⟩) 1 1 [nm.data.toList] rfl rfl (fun e => nomatch e) (fun j u hu => ⟨_, rfl, cel j u hu⟩) (by have := HT.out; have := Z9.out; omega) bw4.size ?_
                intro v14 w14 own14 gr14 wh14
                have bw14 : Below wr2.heap.size wr2 w14 := bw4.grown gr14 bw4.size fun j hj => (own4.lt j hj).1
                refine hK.out _ _ ⟨bw14, by rw [bw14.cell (World.block_lt_of_cell? _ _ d0)]; exact d0, by rw [bw14.cell (World.block_lt_of_cell? _ _ f1)]; exact f1⟩ (fun hHeld14 => ?_)
                clear hK K hHeld4
                refine wpAnyH_ready (rs := [18]) (by kernel_rfl) (by simp) ?_
                refine AllReadyH.cons rfl (fun K hK => ?_) AllReadyH.nil
                refine step_append_strs rfl (.tmp 51) (.tmp 54) rfl wr2.heap.size v14 (t + 1) ((ss.take t).map sv ++ [nm.data.toList].map sv) rfl own14 A2 zt c2 (ss.drop t) rfl (by rw [List.length_drop, HZ.out, HZT.out]) HA20.out (fun j u hu => NEW2.out _ bw14 j u hu) (by have := HT.out; have := Z9.out; have := HZT.out; omega) bw14.size ?_
                intro v18 w18 own18 gr18 wh18
                have bw18 : Below wr2.heap.size wr2 w18 := bw14.grown gr18 bw14.size fun j hj => (own14.lt j hj).1
                refine hK.out _ _ ⟨bw18, by rw [bw18.cell (World.block_lt_of_cell? _ _ d0)]; exact d0, by rw [bw18.cell (World.block_lt_of_cell? _ _ f1)]; exact f1⟩ (fun hHeld18 => ?_)
                clear hK K hHeld14
                refine wpAnyH_done (by kernel_rfl) ?_ _
                have OWN := Lib.hid (fin_row own18 (BW2.out.size) (by rw [List.length_append, List.length_cons, List.length_take, List.length_drop]; have := HZT.out; have := HZ.out; have := HT.out; omega))
                have BFIN := Lib.hid (BW2.out.trans (bw18.mono BW2.out.size))
                obtain ⟨A9, c9, rfl⟩ := row_slice own18
                refine behind_normal (wpOp_step rfl (fun K hK => ?_))
                clear own18 gr18 wh18 bw18 own14 gr14 wh14 bw14 hHeld18
                go_simp
                refine hK _ _ ?_
                go_wp2_with fail
                all_goals go_roundw
                all_goals first
                  | exact ⟨k + 1, _, HLT.out, by go_num, OWN.out, PS.out.1, PS.out.2, BFIN.out⟩
                  | (simp [intOf]; have := HLT.out; omega)
    · have k1 : (n : Int) ≤ (k : Int) := by omega
      have e : (TabM.names M).take k = TabM.names M := List.take_of_length_le (by unfold TabM.names; rw [List.length_map, HN.out]; omega)
      rw [e] at P1
      clear e
      go_wp2_with fail
      go_ret
      exact ⟨⟨_, ss, rfl, R1.out, P1.out, S1.out⟩, B1.out⟩
end Go.Proofs.Ytedpanfdkdbblaa
