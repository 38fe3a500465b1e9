/- The document's own disk: what Crash's walk wants. -/
import Derived.Test.YthclaolmmlgalaaRefCut
import Derived.Test.YthclaolmmlgalaaConv
namespace Go.Proofs.Ythclaolmmlgalaa
open Go.RowKit
set_option linter.unusedVariables false

theorem garb_len : ∀ (f i : Nat) (l : List UInt8), (DiskM.garbled f i l).length = l.length
  | _, _, [] => rfl
  | f, i, c :: r => by simp [DiskM.garbled, garb_len f (i + 1) r]
theorem garb_at : ∀ (f i : Nat) (l : List UInt8) (j : Nat) (h : j < l.length) (h' : j < (DiskM.garbled f i l).length), (DiskM.garbled f i l)[j] = if f ≤ i + j then l[j] ^^^ 0xa5 else l[j]
  | _, _, [], j, h, _ => absurd h (by simp)
  | f, i, c :: r, 0, _, _ => by simp [DiskM.garbled]
  | f, i, c :: r, j + 1, h, h' => by
    simp only [DiskM.garbled, List.getElem_cons_succ]
    rw [garb_at f (i + 1) r j (by simpa using h)]
    rw [show i + 1 + j = i + (j + 1) by omega]
/-- The files when j of them have been crashed. -/
def rhalf (keep : Int) (gb : Bool) (l : List DiskM.F) (j : Nat) : List DiskM.F := (l.take j).map (DiskM.crashed keep gb) ++ l.drop j
theorem rhalf_len (keep : Int) (gb : Bool) (l : List DiskM.F) (j : Nat) (hj : j ≤ l.length) : (rhalf keep gb l j).length = l.length := by
  simp [rhalf]; omega
theorem rhalf_at (keep : Int) (gb : Bool) (l : List DiskM.F) (j : Nat) (hj : j < l.length) (h : j < (rhalf keep gb l j).length) : (rhalf keep gb l j)[j] = l[j] := by
  apply Option.some.inj
  rw [← List.getElem?_eq_getElem h]
  unfold rhalf
  rw [List.getElem?_append_right (by simp; omega)]
  have e : j - ((l.take j).map (DiskM.crashed keep gb)).length = 0 := by simp; omega
  rw [e, List.getElem?_drop, Nat.add_zero, List.getElem?_eq_getElem hj]
theorem rhalf_step (keep : Int) (gb : Bool) (l : List DiskM.F) (j : Nat) (hj : j < l.length) : (rhalf keep gb l j).set j (DiskM.crashed keep gb l[j]) = rhalf keep gb l (j + 1) := by
  unfold rhalf
  rw [List.drop_eq_getElem_cons hj, List.take_add_one, List.getElem?_eq_getElem hj, Option.toList_some, List.map_append, List.append_assoc, List.set_append_right _ _ (by simp; omega)]
  congr 1
  have e : j - ((l.take j).map (DiskM.crashed keep gb)).length = 0 := by simp; omega
  rw [e]
  rfl
theorem rhalf_end (keep : Int) (gb : Bool) (l : List DiskM.F) (j : Nat) (hj : l.length ≤ j) : rhalf keep gb l j = l.map (DiskM.crashed keep gb) := by
  unfold rhalf
  rw [List.take_of_length_le hj, List.drop_of_length_le hj, List.append_nil]
theorem used_set_le : ∀ (l : List DiskM.F) (k : Nat) (hk : k < l.length) (f : DiskM.F), f.b.length ≤ l[k].b.length → DiskM.used (l.set k f) ≤ DiskM.used l
  | x :: r, 0, _, f, h => by
    have h' : f.b.length ≤ x.b.length := h
    rw [List.set_cons_zero, DiskM.used_cons, DiskM.used_cons]; omega
  | x :: r, k + 1, hk, f, h => by
    have := used_set_le r k (by simpa using hk) f h
    rw [List.set_cons_succ, DiskM.used_cons, DiskM.used_cons]; omega
/-- The bytes, with those from m up to k turned. -/
def turned (m k : Nat) (l l' : List UInt8) : Prop := l'.length = l.length ∧ ∀ q (h : q < l'.length) (h' : q < l.length), l'[q] = if m ≤ q ∧ q < k then l[q] ^^^ 0xa5 else l[q]
theorem turned_start (m : Nat) (l : List UInt8) : turned m m l l := ⟨rfl, fun q h h' => by rw [if_neg (by omega)]⟩
theorem turned_step {m k : Nat} {l l' : List UInt8} (h : turned m k l l') (hm : m ≤ k) (hk : k < l'.length) : turned m (k + 1) l (l'.set k (l'[k] ^^^ 0xa5)) := by
  refine ⟨by rw [List.length_set]; exact h.1, fun q hq hq' => ?_⟩
  rw [List.getElem_set]
  split
  · rename_i e
    subst e
    rw [if_pos (by omega), h.2 k hk hq', if_neg (by omega)]
  · rename_i e
    rw [h.2 q (by simpa using hq) hq']
    by_cases z : m ≤ q ∧ q < k
    · rw [if_pos z, if_pos (by omega)]
    · rw [if_neg z, if_neg (by omega)]
theorem turned_all {m k : Nat} {l l' : List UInt8} (h : turned m k l l') (hk : l.length ≤ k) : l' = DiskM.garbled m 0 l := by
  apply List.ext_getElem
  · rw [garb_len]; exact h.1
  · intro q h1 h2
    have hl : q < l.length := by rw [← h.1]; exact h1
    rw [garb_at _ _ _ _ hl h2, h.2 q h1 hl, Nat.zero_add]
    by_cases z : m ≤ q
    · rw [if_pos ⟨z, by omega⟩, if_pos z]
    · rw [if_neg (by omega), if_neg z]
theorem turned_none {m : Nat} {l l' : List UInt8} (h : turned m m l l') : l' = l := by
  apply List.ext_getElem h.1
  intro q h1 h2
  rw [h.2 q h1 h2, if_neg (by omega)]
theorem crash_nums (keep : Int) (B sy nn : Nat) (hsy : sy ≤ B) (hB : B ≤ 16777216) (hnn : sy + (max 0 (min keep ((B : Int) - sy))).toNat = nn) :
    ∃ d : Nat, IntKind.i64.wrap ((B : Int) - (sy : Int)) = (d : Int) ∧ wrap64 ((B : Int) - (sy : Int)) = (d : Int) ∧ (0 : Int) ≤ (d : Int) ∧ nn ≤ B ∧ (nn : Int) ≤ 16777216 ∧ (nn : Int) ≤ (B : Int) ∧ (0 : Int) ≤ (nn : Int) ∧ wrap64 (nn : Int) = (nn : Int) ∧ sy ≤ nn ∧
      ((keep ≤ 0 ∧ nn = sy) ∨ (0 < keep ∧ keep ≤ d ∧ IntKind.i64.wrap ((sy : Int) + keep) = nn ∧ wrap64 ((sy : Int) + keep) = nn) ∨ (0 < (d : Int) ∧ (d : Int) < keep ∧ IntKind.i64.wrap ((sy : Int) + (d : Int)) = nn ∧ wrap64 ((sy : Int) + (d : Int)) = nn) ∨ ((d : Int) ≤ 0 ∧ (d : Int) < keep ∧ nn = sy)) := by
  obtain ⟨d, rfl⟩ : ∃ d : Nat, B = sy + d := ⟨B - sy, by omega⟩
  have e : ((sy + d : Nat) : Int) - (sy : Int) = (d : Int) := by omega
  rw [e] at hnn ⊢
  have hw : ∀ k : Int, 0 ≤ k → k ≤ 16777216 → IntKind.i64.wrap k = k ∧ wrap64 k = k := fun k h0 h1 => ⟨by simp [IntKind.wrap, IntKind.bits, IntKind.signed]; omega, by unfold wrap64; omega⟩
  have hd := hw d (by omega) (by omega)
  refine ⟨d, hd.1, hd.2, by omega, by omega, by omega, by omega, by omega, (hw nn (by omega) (by omega)).2, by omega, ?_⟩
  by_cases k0 : keep ≤ 0
  · exact .inl ⟨k0, by omega⟩
  · by_cases kd : keep ≤ d
    · have e2 : (sy : Int) + keep = nn := by omega
      have := hw nn (by omega) (by omega)
      exact .inr (.inl ⟨by omega, kd, by rw [e2]; exact this.1, by rw [e2]; exact this.2⟩)
    · by_cases d0 : (d : Int) ≤ 0
      · exact .inr (.inr (.inr ⟨d0, by omega, by omega⟩))
      · have e2 : (sy : Int) + d = nn := by omega
        have := hw nn (by omega) (by omega)
        exact .inr (.inr (.inl ⟨by omega, by omega, by rw [e2]; exact this.1, by rw [e2]; exact this.2⟩))
/-- All that is read of the file at j. -/
theorem crash_at {wr : World} {g h : Nat} {M : DiskM.D} {keep : Int} {gb : Bool} {j n : Nat} (hok : ∀ x ∈ M.l, x.sync ≤ x.b.length ∧ x.b.length ≤ 16777216) (hn : M.l.length = n) (hj : j < n) (R : RD wr g h ⟨rhalf keep gb M.l j, M.max, true⟩) :
    ∃ (x : DiskM.F) (b : ByteArray) (sy nn : Nat) (hjh : j < (rhalf keep gb M.l j).length), x = M.l[j] ∧ (rhalf keep gb M.l j)[j] = x ∧ (rhalf keep gb M.l j).set j (DiskM.crashed keep gb x) = rhalf keep gb M.l (j + 1) ∧
      wr.cell? ⟨h, j * 3 + 1, none⟩ = some (.string b) ∧ wr.cell? ⟨h, j * 3 + 2, none⟩ = some (.int .i64 (sy : Int)) ∧ (∀ q, wr.frozen? ⟨h, q, none⟩ = false) ∧ b.data.toList = x.b ∧ x.b.length = b.size ∧ x.sync = sy ∧ DiskM.stays keep x = nn ∧ (b.size : Int) ≤ 16777216 ∧
      ∃ d : Nat, IntKind.i64.wrap ((b.size : Int) - (sy : Int)) = (d : Int) ∧ wrap64 ((b.size : Int) - (sy : Int)) = (d : Int) ∧ (0 : Int) ≤ (d : Int) ∧ nn ≤ b.size ∧ (nn : Int) ≤ 16777216 ∧ (nn : Int) ≤ (b.size : Int) ∧ (0 : Int) ≤ (nn : Int) ∧ wrap64 (nn : Int) = (nn : Int) ∧ sy ≤ nn ∧
      ((keep ≤ 0 ∧ nn = sy) ∨ (0 < keep ∧ keep ≤ d ∧ IntKind.i64.wrap ((sy : Int) + keep) = nn ∧ wrap64 ((sy : Int) + keep) = nn) ∨ (0 < (d : Int) ∧ (d : Int) < keep ∧ IntKind.i64.wrap ((sy : Int) + (d : Int)) = nn ∧ wrap64 ((sy : Int) + (d : Int)) = nn) ∨ ((d : Int) ≤ 0 ∧ (d : Int) < keep ∧ nn = sy)) := by
  subst hn
  have hjh : j < (rhalf keep gb M.l j).length := by rw [rhalf_len _ _ _ _ (Nat.le_of_lt hj)]; exact hj
  have hat := rhalf_at keep gb M.l j hj hjh
  have hstep := rhalf_step keep gb M.l j hj
  obtain ⟨hsy, hbm⟩ := hok _ (List.getElem_mem hj)
  have f1 := R.row.each j 1 hjh (by omega)
  have f2 := R.row.each j 2 hjh (by omega)
  have fr := (R.row.2 j hjh).2.2.2
  have hat' : (⟨rhalf keep gb M.l j, M.max, true⟩ : DiskM.D).l[j] = M.l[j] := hat
  rw [hat'] at f1 f2
  exact ⟨M.l[j], ⟨M.l[j].b.toArray⟩, M.l[j].sync, DiskM.stays keep M.l[j], hjh, rfl, hat, hstep, f1, f2, fr, rfl, rfl, rfl, rfl, by have : ((⟨M.l[j].b.toArray⟩ : ByteArray).size) ≤ 16777216 := hbm; omega, crash_nums keep _ _ _ hsy hbm rfl⟩
theorem crash_put {W wr : World} {g h : Nat} {M : DiskM.D} {keep : Int} {gb : Bool} {j nn : Nat} {x : DiskM.F} {l' : List UInt8} (R : RD wr g h ⟨rhalf keep gb M.l j, M.max, true⟩) (hb : Below wr.heap.size wr W) (hjh : j < (rhalf keep gb M.l j).length) (hat : (rhalf keep gb M.l j)[j] = x)
    (hstep : (rhalf keep gb M.l j).set j (DiskM.crashed keep gb x) = rhalf keep gb M.l (j + 1)) (hl : l' = (DiskM.crashed keep gb x).b) (hlen : l'.length ≤ x.b.length) (hst : DiskM.stays keep x = nn) :
    RD ((W.setCell ⟨h, j * 3 + 1, none⟩ (.string ⟨l'.toArray⟩)).setCell ⟨h, j * 3 + 2, none⟩ (.int .i64 (nn : Int))) g h ⟨rhalf keep gb M.l (j + 1), M.max, true⟩ := by
  have R' := R.below hb
  have hat' : (⟨rhalf keep gb M.l j, M.max, true⟩ : DiskM.D).l[j] = x := hat
  have F1 := R'.row.put j 1 hjh (by omega) ⟨x.name, l', x.sync⟩ (fun r hr hne => by
    rw [hat']
    rcases (by omega : r = 0 ∨ r = 2) with rfl | rfl
    · rfl
    · rfl)
  have F2 := F1.put j 2 (by rw [List.length_set]; exact hjh) (by omega) ⟨x.name, l', nn⟩ (fun r hr hne => by
    rw [List.getElem_set_self]
    rcases (by omega : r = 0 ∨ r = 1) with rfl | rfl
    · rfl
    · rfl)
  have hsm : ∀ f : DiskM.F, f.b = l' → DiskM.used ((rhalf keep gb M.l j).set j f) ≤ 16777216 := fun f hf => by
    refine Nat.le_trans (used_set_le _ j hjh f ?_) R.small
    rw [hat, hf]
    exact hlen
  have R1 := R'.row_put (j * 3 + 1) _ _ (by rw [List.length_set]) F1 (hsm _ rfl)
  have R2 := R1.row_put (j * 3 + 2) _ _ (by rw [List.length_set]) F2 (by rw [List.set_set]; exact hsm _ rfl)
  have e : DiskM.crashed keep gb x = ⟨x.name, l', nn⟩ := by
    subst hl hst
    rfl
  rw [List.set_set] at R2
  rw [← hstep, e]
  exact R2
/-- The front of a text as bytes: a block of the walk's own. -/
theorem conv_front (w : World) (b : ByteArray) (nn : Nat) (hn : nn ≤ b.size) : ∃ (W : World) (c G : Nat), (convert 9 40 (.string (b.extract 0 nn))).run Try.prog w.drew = .ok (.slice (some ⟨G, 0, none⟩) nn c) W ∧ Below w.heap.size w W ∧ nn ≤ c ∧ w.heap.size ≤ G ∧ OwnF W G (b.data.toList.take nn) := by
  obtain ⟨W, c, hcv, hb, hc, ho⟩ := conv_own w.drew (b.extract 0 nn)
  have e : (b.extract 0 nn).size = nn := by simp; omega
  rw [e] at hcv hc
  have e2 : (b.extract 0 nn).data.toList = b.data.toList.take nn := by simp
  rw [e2] at ho
  exact ⟨W, c, _, hcv, ⟨hb.os, hb.tape, hb.output, hb.size, hb.block⟩, hc, Nat.le_refl _, ho⟩
theorem last_step {la nn : Nat} (h : (nn : Int) ≤ 16777216) (hm : la % 512 = 0) (hz : la = 0 ∨ la < nn) : wrap64 ((la : Int) + 512) = (la : Int) + 512 ∧ IntKind.i64.wrap ((la : Int) + 512) = (la : Int) + 512 ∧ (0 : Int) ≤ (la : Int) := ⟨by unfold wrap64; omega, by simp [IntKind.wrap, IntKind.bits, IntKind.signed]; omega, by omega⟩
theorem byte_step {k nn : Nat} (h : (nn : Int) ≤ 16777216) (hk : k < nn) : wrap64 ((k : Int) + 1) = (k : Int) + 1 ∧ IntKind.i64.wrap ((k : Int) + 1) = (k : Int) + 1 ∧ (0 : Int) ≤ (k : Int) ∧ (k : Int) < (nn : Int) := ⟨by unfold wrap64; omega, by simp [IntKind.wrap, IntKind.bits, IntKind.signed]; omega, by omega, by omega⟩
theorem last_end {la sy nn : Nat} (hm : la % 512 = 0) (hz : la = 0 ∨ la < nn) (hn : nn ≤ la + 512) (hs : sy ≤ nn) : ∃ m : Nat, m = max sy ((nn - 1) / 512 * 512) ∧ m ≤ nn ∧ (((la : Int) < (sy : Int) ∧ m = sy) ∨ ((sy : Int) ≤ (la : Int) ∧ m = la)) := by
  have e : (nn - 1) / 512 * 512 = la := by omega
  rw [e]
  exact ⟨_, rfl, by omega, by omega⟩
theorem up_lt {a b : Nat} (h : a + 512 < b) : (a : Int) + 512 < (b : Int) := by omega
theorem up_le {a b : Nat} (h : ¬ a + 512 < b) : (b : Int) ≤ (a : Int) + 512 ∧ b ≤ a + 512 := by omega
theorem up_less {a b : Nat} (h : a + 512 < b) : b - (a + 512) < b - a := by omega
theorem bool_two (b : Bool) : b = true ∨ b = false := by cases b <;> simp
theorem crash_bytes {keep : Int} {gb : Bool} {x : DiskM.F} {nn m k : Nat} {l' : List UInt8} (hst : DiskM.stays keep x = nn) (hn : nn ≤ x.b.length) (hm : m = max x.sync ((nn - 1) / 512 * 512)) (ht : turned m k (x.b.take nn) l') (hk : (gb = false ∧ k = m) ∨ (gb = true ∧ nn ≤ k)) : l' = (DiskM.crashed keep gb x).b ∧ l'.length ≤ x.b.length ∧ l'.length = nn := by
  have hlen : (x.b.take nn).length = nn := by simp; omega
  have h1 : l'.length = nn := ht.1.trans hlen
  refine ⟨?_, by omega, h1⟩
  subst hst
  rcases hk with ⟨rfl, rfl⟩ | ⟨rfl, hk⟩
  · exact turned_none ht
  · subst hm
    exact turned_all ht (by rw [hlen]; exact hk)
end Go.Proofs.Ythclaolmmlgalaa
