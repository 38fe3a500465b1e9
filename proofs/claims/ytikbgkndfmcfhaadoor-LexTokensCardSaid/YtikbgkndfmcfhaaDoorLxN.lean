/- Package lex: numbers: what strconv.ParseInt takes for one. -/
import Derived.Test.YtikbgkndfmcfhaaDoorLxK
import Derived.Test.YtikbgkndfmcfhaaDoorLaid
import Derived.BigRegion
import Derived.Test.YtikbgkndfmcfhaaDoorTail
namespace Go.Proofs.YtikbgkndfmcfhaaDoor
open Go.RowKit
set_option linter.unusedVariables false
theorem val_cons (acc : Nat) (c : UInt8) (r : List UInt8) : LxM.val acc (c :: r) = LxM.val (acc * 10 + (c.toNat - 48)) r := LxM.val_cons' acc c r
theorem val_ge (l : List UInt8) : ∀ acc : Nat, acc ≤ LxM.val acc l := by
  induction l with
  | nil => intro acc; rw [LxM.val_nil]; exact Nat.le_refl acc
  | cons c r ih =>
    intro acc
    rw [val_cons]
    have := ih (acc * 10 + (c.toNat - 48))
    omega
theorem dg_iff (c : UInt8) : LxM.dg (LxM.i c) = true ↔ 48 ≤ c.toNat ∧ c.toNat ≤ 57 := by
  unfold LxM.dg LxM.i
  rw [Bool.and_eq_true, decide_eq_true_iff, decide_eq_true_iff]
  omega
theorem uint_ok : ∀ (l : List UInt8) (acc : Nat), acc ≤ 18446744073709551615 → ∀ u, Lib.parseUintM 18446744073709551615 acc l = .ok u → l.all (fun c => LxM.dg (LxM.i c)) = true ∧ u = LxM.val acc l
  | [], acc, h, u, e => by
    rw [Lib.parseUintM] at e
    injection e with e
    exact ⟨rfl, by rw [LxM.val_nil]; exact e.symm⟩
  | c :: r, acc, h, u, e => by
    rw [Lib.parseUintM] at e
    split at e
    · rename_i k
      split at e
      · cases e
      · split at e
        · cases e
        · obtain ⟨h1, h2⟩ := uint_ok r _ (by omega) u e
          refine ⟨?_, by rw [val_cons]; exact h2⟩
          rw [List.all_cons, h1, (dg_iff c).2 k]
          rfl
    · cases e
theorem uint_of : ∀ (l : List UInt8) (acc : Nat), l.all (fun c => LxM.dg (LxM.i c)) = true → LxM.val acc l ≤ 18446744073709551615 → Lib.parseUintM 18446744073709551615 acc l = .ok (LxM.val acc l)
  | [], acc, h, e => by rw [Lib.parseUintM, LxM.val_nil]
  | c :: r, acc, h, e => by
    rw [List.all_cons, Bool.and_eq_true] at h
    have k := (dg_iff c).1 h.1
    rw [val_cons] at e ⊢
    have g := val_ge r (acc * 10 + (c.toNat - 48))
    rw [Lib.parseUintM, if_pos k, if_neg (by omega), if_neg (by omega)]
    exact uint_of r _ h.2 e
/-- What ParseInt tells of a text that begins with a digit. -/
theorem int_num (c : UInt8) (r : List UInt8) (hc : LxM.dg (LxM.i c) = true) : (∃ v, Lib.parseIntB 64 (c :: r) = .ok v ∧ LxM.num (c :: r) = some v) ∨ ((Lib.parseIntB 64 (c :: r) = .«syntax» ∨ Lib.parseIntB 64 (c :: r) = .range) ∧ LxM.num (c :: r) = none) := by
  have k := (dg_iff c).1 hc
  have n1 : ¬ (c.toNat = 43 ∨ c.toNat = 45) := by omega
  have n2 : ¬ c.toNat = 45 := by omega
  have e0 : Lib.parseIntB 64 (c :: r) = Lib.signlessC 9223372036854775808 (Lib.parseUintM 18446744073709551615 0 (c :: r)) := by
    rw [Lib.parseIntB_plain 64 c r (by omega) (by omega)]
    rfl
  rw [e0]
  cases h : Lib.parseUintM 18446744073709551615 0 (c :: r) with
  | «syntax» =>
    refine .inr ⟨.inl rfl, ?_⟩
    unfold LxM.num
    split
    · rename_i a
      rw [if_neg]
      intro hv
      rw [uint_of _ 0 a (by omega)] at h
      cases h
    · rfl
  | range =>
    refine .inr ⟨.inr rfl, ?_⟩
    unfold LxM.num
    split
    · rename_i a
      rw [if_neg]
      intro hv
      rw [uint_of _ 0 a (by omega)] at h
      cases h
    · rfl
  | ok u =>
    obtain ⟨h1, h2⟩ := uint_ok _ 0 (by omega) u h
    unfold LxM.num
    rw [if_pos h1, ← h2]
    by_cases hu : 9223372036854775808 ≤ u
    · exact .inr ⟨.inr (by simp [Lib.signlessC, hu]), by rw [if_neg (by omega)]⟩
    · exact .inl ⟨u, by simp [Lib.signlessC, hu], by rw [if_pos (by omega)]⟩
/-- The two variables of strconv that a fault reads. -/
def Er (w : World) : Prop := (∃ ev, w.cell? ⟨0, 0, none⟩ = some ev ∧ (ev = .nilIface ∨ ∃ te pe, ev = .iface te pe)) ∧ ∃ ev, w.cell? ⟨1, 0, none⟩ = some ev ∧ (ev = .nilIface ∨ ∃ te pe, ev = .iface te pe)
theorem Er.two {w : World} (h : Er w) : 1 < w.heap.size := by
  obtain ⟨ev, he, _⟩ := h.2
  exact World.block_lt_of_cell? w ⟨1, 0, none⟩ he
theorem Er.of {w w' : World} (h : Er w) (k0 : w'.heap[0]? = w.heap[0]?) (k1 : w'.heap[1]? = w.heap[1]?) : Er w' := by
  obtain ⟨⟨e0, h0, j0⟩, ⟨e1, h1, j1⟩⟩ := h
  exact ⟨⟨e0, (World.cell?_of_block (a := ⟨0, 0, none⟩) k0).trans h0, j0⟩, ⟨e1, (World.cell?_of_block (a := ⟨1, 0, none⟩) k1).trans h1, j1⟩⟩
theorem Er.below {w w' : World} {B : Nat} (h : Er w) (hb : Below B w w') (hB : 1 < B) : Er w' := h.of (hb.block 0 (by omega)) (hb.block 1 hB)
theorem Er.grown {w w' : World} {g : Nat} (h : Er w) (hb : w.grownBy w' (some g)) (hg : 1 < g) : Er w' :=
  h.of (hb.block 0 (by have := h.two; omega) (by intro e; have := Option.some.inj e; omega)) (hb.block 1 h.two (by intro e; have := Option.some.inj e; omega))
/-- strconv.ParseInt of a text that begins with a digit. -/
theorem parse_any (s : ByteArray) (w : World) (hs : s.size ≤ 16384) (c : UInt8) (r : List UInt8) (hL : s.data.toList = c :: r) (hc : LxM.dg (LxM.i c) = true) (he : Er w) :
    Calls Tryd.prog 38 #[.string s, .int .i64 10, .int .i64 64] w fun e w' => (∃ v ev, e = .returned (.tuple #[.int .i64 v, ev]) ∧ match LxM.num s.data.toList with | some x => v = x ∧ ev = .nilIface | none => ∃ N : Nat, ev = .iface 66 (.pointer (some ⟨N, 0, none⟩))) ∧ Below w.heap.size w w' := by
  rcases int_num c r hc with ⟨v, h1, h2⟩ | ⟨h1, h2⟩
  · refine (Tryd.strconv_ParseInt_10_at64_ok s (by omega) v (by rw [hL]; exact h1) w).mono ?_
    rintro e w' ⟨rfl, hw⟩
    refine ⟨⟨v, _, rfl, by rw [hL, h2]; exact ⟨rfl, rfl⟩⟩, ?_⟩
    rcases hw with rfl | ⟨t, rfl⟩
    · exact Below.refl _ _
    · exact Lib.bytesWorld_below w _ t
  · obtain ⟨⟨e0, h0, j0⟩, ⟨e1, h1', j1⟩⟩ := he
    rcases h1 with h1 | h1
    · refine (Tryd.strconv_ParseInt_10_at64_syntax s (by omega) (by rw [hL]; exact h1) e0 w h0 j0).mono ?_
      rintro e w' ⟨N, rfl, -, -, hb⟩
      exact ⟨⟨_, _, rfl, by rw [hL, h2]; exact ⟨N, rfl⟩⟩, hb⟩
    · refine (Tryd.strconv_ParseInt_10_at64_range s (by omega) (by rw [hL]; exact h1) e1 w h1' j1).mono ?_
      rintro e w' ⟨N, rfl, -, -, hb⟩
      exact ⟨⟨_, _, rfl, by rw [hL, h2]; exact ⟨N, rfl⟩⟩, hb⟩
theorem Blk.four {W : World} {b : Nat} {v0 v1 v2 v3 : Value} {t : TypeId} (h : Blk W b #[v0, v1, v2, v3] t) :
    (W.cell? ⟨b, 0, none⟩ = some v0 ∧ W.cell? ⟨b, 1, none⟩ = some v1 ∧ W.cell? ⟨b, 2, none⟩ = some v2 ∧ W.cell? ⟨b, 3, none⟩ = some v3) ∧
    W.frozen? ⟨b, 0, none⟩ = false ∧ W.frozen? ⟨b, 1, none⟩ = false ∧ W.frozen? ⟨b, 2, none⟩ = false ∧ W.frozen? ⟨b, 3, none⟩ = false := by
  have h : W.heap[b]? = _ := h
  simp [World.cell?, World.frozen?, h]
/-- Four stores. -/
def put4 (W : World) (b : Nat) (u0 u1 u2 u3 : Value) : World := (((W.setCell ⟨b, 0, none⟩ u0).setCell ⟨b, 1, none⟩ u1).setCell ⟨b, 2, none⟩ u2).setCell ⟨b, 3, none⟩ u3
theorem Blk.put4 {W : World} {b : Nat} {v0 v1 v2 v3 : Value} {t : TypeId} (h : Blk W b #[v0, v1, v2, v3] t) (u0 u1 u2 u3 : Value) : Blk (put4 W b u0 u1 u2 u3) b #[u0, u1, u2, u3] t := by
  have h : W.heap[b]? = _ := h
  show (Go.Proofs.YtikbgkndfmcfhaaDoor.put4 W b u0 u1 u2 u3).heap[b]? = _
  simp [Go.Proofs.YtikbgkndfmcfhaaDoor.put4, World.setCell, Array.getElem?_modify, h]
theorem grown_put4 (W : World) (b : Nat) (u0 u1 u2 u3 : Value) : W.grownBy (put4 W b u0 u1 u2 u3) (some b) :=
  (((grown_set W b 0 u0).trans (grown_set _ b 1 u1)).trans (grown_set _ b 2 u2)).trans (grown_set _ b 3 u3)
theorem below_put4 {B : Nat} {W W1 : World} (h : Below B W W1) (b : Nat) (hb : B ≤ b) (hs : B ≤ W1.heap.size) (u0 u1 u2 u3 : Value) : Below B W (put4 W1 b u0 u1 u2 u3) :=
  h.grown (grown_put4 W1 b u0 u1 u2 u3) hs fun j hj => by have := Option.some.inj hj; omega
set_option maxHeartbeats 1000000 in
theorem numof_any (s : ByteArray) (W : World) (hs : s.size ≤ 16384) (c : UInt8) (r : List UInt8) (hL : s.data.toList = c :: r) (hc : LxM.dg (LxM.i c) = true) (he : Er W) :
    Calls Tryd.prog 33 #[.string s] W fun e W' => (∃ v ok, e = .returned (.tuple #[.agg #[.int .i64 3, .string ⟨#[]⟩, .int .i64 v, .int .i64 0], .bool ok]) ∧ match LxM.num s.data.toList with | some x => v = x ∧ ok = true | none => ok = false) ∧ Below W.heap.size W W' := by
  have hE : Er (W.alloc (.cells #[.int .i64 0, .string ⟨#[]⟩, .int .i64 0, .int .i64 0] 31)) := he.below ((Below.refl _ W).alloc (Nat.le_refl _) _) he.two
  have PA := Lib.hid (parse_any s _ hs c r hL hc hE)
  generalize LxM.num s.data.toList = x at *
  have BKN := Lib.hid (Blk.new W #[.int .i64 0, .string ⟨#[]⟩, .int .i64 0, .int .i64 0] 31)
  clear hL hc he hE hs
  go_enter Tryd.func33, Tryd.ntmps33
  go_wp2_with fail
  go_at_call 38
  refine PA.out.mono ?_
  rintro e W1 ⟨⟨v, ev, rfl, hv⟩, hb⟩
  have BK := Lib.hid (BKN.out.keep hb)
  have HB := Lib.hid hb
  have HV := Lib.hid hv
  clear hb hv
  obtain ⟨⟨c0, c1, c2, c3⟩, f0, f1, f2, f3⟩ := BK.out.four
  cases x with
  | some x =>
    obtain ⟨rfl, rfl⟩ := HV.out
    go_wp2_with fail
    go_region
    go_wp2_with fail
    refine bodyPost_ret (res_row_tmp (P := Tryd.prog) (fn := Tryd.f33) (p := 2) (u := 3) (ty := 31) rfl _ _ W.heap.size 31 _ (0, 0) _ _ rfl rfl (BK.out.put4 (.int .i64 3) (.string ⟨#[]⟩) (.int .i64 v) (.int .i64 0)) Tryd.underlying31 rfl sizeT) rfl ⟨?_, ?_⟩
    · rfl
    · exact (below_put4 (below_new HB.out) _ (Nat.le_refl _) (Nat.le_of_lt BK.out.lt) _ _ _ _).drew
  | none =>
    obtain ⟨N, rfl⟩ := HV.out
    go_wp2_with fail
    go_region
    go_wp2_with fail
    refine bodyPost_ret (res_row_tmp (P := Tryd.prog) (fn := Tryd.f33) (p := 2) (u := 3) (ty := 31) rfl _ _ W.heap.size 31 _ (0, 0) _ _ rfl rfl (BK.out.put4 (.int .i64 3) (.string ⟨#[]⟩) (.int .i64 v) (.int .i64 0)) Tryd.underlying31 rfl sizeT) rfl ⟨?_, ?_⟩
    · first | rfl | exact ⟨v, rfl⟩ | exact ⟨v, rfl, rfl⟩
    · exact (below_put4 (below_new HB.out) _ (Nat.le_refl _) (Nat.le_of_lt BK.out.lt) _ _ _ _).drew
end Go.Proofs.YtikbgkndfmcfhaaDoor
