/- The contract of ints.Print: for any int64 it returns the decimal text of the number; it makes memory and changes none. -/
import Derived.Test.YtdiedplmgclacaaDoorParse
import Derived.Laws.BytesArg
import Derived.Lib.ItoaNum
import Derived.ProofKit
namespace Go.Proofs.YtdiedplmgclacaaDoor
open Go.RowKit
set_option linter.unusedVariables false

/-- A row of twenty bytes lies at block b, and may be written. -/
def Row20 (w : World) (b : Nat) (xs : List Int) : Prop :=
  xs.length = 20 ∧ (∀ i, i < 20 → w.cell? ⟨b, i, none⟩ = some (.int .u8 (xs.getD i 0))) ∧ ∀ i, w.frozen? ⟨b, i, none⟩ = false
theorem Row20.put {w : World} {b : Nat} {xs : List Int} (h : Row20 w b xs) (k : Nat) (hk : k < 20) (v : Int) : Row20 (w.setCell ⟨b, k, none⟩ (.int .u8 v)) b (xs.set k v) := by
  obtain ⟨h1, h2, h3⟩ := h
  refine ⟨by simpa using h1, fun i hi => ?_, fun i => by rw [World.frozen?_setCell]; exact h3 i⟩
  by_cases e : i = k
  · subst e
    rw [World.cell?_setCell_same _ _ _ (h2 i hi)]
    simp [List.getD, h1, hi]
  · rw [World.cell?_setCell_other _ _ _ _ (by intro c; injection c; omega), h2 i hi]
    simp [List.getD, show ¬ k = i by omega]
theorem Row20.new (w : World) (t : TypeId) (c : Array Value) (xs : List Int) (hc : c = (xs.map (Value.int .u8)).toArray) (hl : xs.length = 20) : Row20 (w.alloc (.cells c t)) w.heap.size xs := by
  subst hc
  refine ⟨hl, fun i hi => ?_, fun i => ?_⟩
  · simp [hl, hi, List.getD]
  · simp
/-- What the bytes from place k on are worth as a text. -/
theorem Row20.text {P : Program} {w : World} {b : Nat} {xs : List Int} (h : Row20 w b xs) (k m : Nat) (hk : k + m = 20) (src e dst : TypeId) (hs : P.underlying src = some (.slice e)) (he : P.underlying e = some (.int .u8)) (hd : P.underlying dst = some .string)
    (l : List UInt8) (hl : (xs.drop k).map (fun n => UInt8.ofNat n.toNat) = l) :
    (convert src dst (.slice (some ⟨b, k, none⟩) m m)).run P w = .ok (.string ⟨l.toArray⟩) w := by
  have r := run_convert_bytes_arg (P := P) w src e hs he b k m m (xs.drop k) (by rw [List.length_drop, h.1]; omega) (fun i hi => by
    rw [h.2.1 (k + i) (by omega)]
    simp [List.getD, List.getElem?_drop]) dst hd
  rw [strOfNums, hl] at r
  exact r
theorem drop_set (xs : List Int) (k : Nat) (hk : k < xs.length) (v : Int) : (xs.set k v).drop k = v :: xs.drop (k + 1) := by
  rw [List.drop_eq_getElem_cons (by simpa using hk)]
  simp [List.drop_set]
theorem dec_small {u : Nat} (h : u < 10) : Lib.decDigits u = [UInt8.ofNat (48 + u)] := by rw [Lib.decDigits, dif_pos h]
theorem dec_big {u : Nat} (h : ¬ u < 10) : Lib.decDigits u = Lib.decDigits (u / 10) ++ [UInt8.ofNat (48 + u % 10)] := by
  rw [Lib.decDigits, dif_neg h]
theorem dec_len : ∀ (m u : Nat), u < 10 ^ (m + 1) → (Lib.decDigits u).length ≤ m + 1
  | 0, u, h => by rw [dec_small (by omega)]; simp
  | m + 1, u, h => by
    by_cases k : u < 10
    · rw [dec_small k]; simp
    · rw [dec_big k, List.length_append]
      have := dec_len m (u / 10) (by rw [Nat.pow_succ] at h; omega)
      simp; omega
theorem dec_ne (u : Nat) : 1 ≤ (Lib.decDigits u).length := by
  by_cases k : u < 10
  · rw [dec_small k]; simp
  · rw [dec_big k]; simp

/-- How far the text has come: the number u is still to be written ahead of the bytes from k + 1 on. -/
def Come (U u k : Nat) (xs : List Int) : Prop := Lib.decDigits u ++ (xs.drop (k + 1)).map (fun n => UInt8.ofNat n.toNat) = Lib.decDigits U
theorem Come.room {U u k : Nat} {xs : List Int} (h : Come U u k xs) (hx : xs.length = 20) (hU : U ≤ 9223372036854775808) (hk : k < 20) : 1 ≤ k := by
  have a := dec_len 18 U (by omega)
  have b := dec_ne u
  have c := congrArg List.length h
  simp [hx] at c
  omega
theorem Come.room2 {U u k : Nat} {xs : List Int} (h : Come U u k xs) (hx : xs.length = 20) (hU : U ≤ 9223372036854775808) (hk : k < 20) (hu : ¬ u < 10) : 2 ≤ k := by
  have a := dec_len 18 U (by omega)
  have b := dec_ne (u / 10)
  have c := congrArg List.length h
  rw [dec_big hu] at c
  simp [hx] at c
  omega
theorem byte_of (u : Nat) : UInt8.ofNat ((48 + (u : Int) % 10).toNat) = UInt8.ofNat (48 + u % 10) := by
  rw [show (48 + (u : Int) % 10).toNat = 48 + u % 10 by omega]
theorem Come.last {U u k : Nat} {xs : List Int} (h : Come U u k xs) (hx : xs.length = 20) (hk : k < 20) (hu : u < 10) :
    ((xs.set k (48 + (u : Int) % 10)).drop k).map (fun n => UInt8.ofNat n.toNat) = Lib.decDigits U := by
  rw [drop_set xs k (by omega), List.map_cons, byte_of, Nat.mod_eq_of_lt hu, ← h, dec_small hu]
  rfl
theorem Come.next {U u k : Nat} {xs : List Int} (h : Come U u (k + 1) xs) (hx : xs.length = 20) (hk : k + 1 < 20) (hu : ¬ u < 10) :
    Come U (u / 10) k (xs.set (k + 1) (48 + (u : Int) % 10)) := by
  unfold Come
  rw [drop_set xs (k + 1) (by omega), List.map_cons, byte_of, ← h, dec_big hu]
  simp

def PrintJ (n : Int) (U : Nat) (w : World) (a' : Act) (w' : World) : Prop :=
  ∃ (k u : Nat) (u6 u7 u8 u9 u10 u11 u12 u13 u14 u15 u16 u17 u18 u19 u20 u21 u22 u23 u24 u25 u26 u27 u28 u29 u30 u31 u32 : Value) (xs : List Int), a' = { tmps := #[.int .i64 n, undef, .string ⟨#[]⟩, .int .u64 (u : Int), .pointer (some ⟨w.heap.size, 0, none⟩), .int .i64 ((k : Int) + 1), u6, u7, u8, u9, u10, u11, u12, u13, u14, u15, u16, u17, u18, u19, u20, u21, u22, u23, u24, u25, u26, u27, u28, u29, u30, u31, u32], defers := [] } ∧ k < 20 ∧ u < 18446744073709551616 ∧ Row20 w' w.heap.size xs ∧ Below w.heap.size w w' ∧ Come U u k xs
def PrintM (a' : Act) (_ : World) : Nat := (intOf (a'.tmps.getD 5 undef)).toNat

theorem slice20 (w : World) (b j : Nat) (t : Int) (ej : (j : Int) = t) (m : Nat) (em : 20 - j = m) (hj : j < 20) :
    (Instr.sliceAt 31 (.pointer (some ⟨b, 0, none⟩)) (some (.int .i64 t)) none none).run Tryd.prog w = .ok (.slice (some ⟨b, j, none⟩) m m) w := by
  subst ej em
  have hl : Tryd.prog.arrayLen 31 = 20 := by kernel_rfl
  have he : Tryd.prog.elem 31 = 5 := by kernel_rfl
  have ht : Tryd.prog.underlying 31 = some (.array (Tryd.prog.arrayLen 31) (Tryd.prog.elem 31)) := by rw [hl, he]; exact Tryd.underlying31
  have hz : (sizeOf 5).run Tryd.prog w = .ok 1 w := by kernel_rfl
  rw [run_sliceAt_array_l w 31 ⟨b, 0, none⟩ ht .i64 j (by omega) (by rw [hl]; omega), hl, he, hz]
  simp [Result.andThen, slicedAt, show ¬ 20 = j by omega, Addr.add]
  omega
set_option maxHeartbeats 400000 in
theorem print_any (n : Int) (wn : (Lit.int .i64 n).wf = true) (w : World) :
    Calls Tryd.prog 7 #[.int .i64 n] w fun e w' => e = .returned (.string ⟨(Lib.itoa n).toArray⟩) ∧ Below w.heap.size w w' := by
  have n1 := wf_lo wn
  have n2 := wf_hi wn
  obtain ⟨U, HU⟩ : ∃ U, Hid (U = n.natAbs) := ⟨_, rfl⟩
  have U2 : U ≤ 9223372036854775808 := by rw [HU.out]; omega
  by_cases hn : n < 0
  · have wu : IntKind.u64.wrap (-IntKind.u64.wrap n) = (U : Int) := by
      rw [HU.out, IntKind.wrap_u64, IntKind.wrap_u64]; omega
    go_enter Tryd.func7, Tryd.ntmps7
    go_wp2
    refine wp_scope_rounds 0 (PrintJ n U w) PrintM rfl ?_ ?_
    rotate_left
    · intro H
      go_wp2
      go_step3
      rename_i hK
      exact hK _ _ (H _ _ ⟨19, U, _, _, _, _, _, _, _, _, _, _, _, _, _, _, _, _, _, _, _, _, _, _, _, _, _, _, _, List.replicate 20 0, rfl, by decide, by omega, Row20.new _ _ _ _ rfl rfl, (Below.refl _ w).alloc (Nat.le_refl _) _, by unfold Come; simp⟩)
    · rintro a' w' ⟨k, u, u6, u7, u8, u9, u10, u11, u12, u13, u14, u15, u16, u17, u18, u19, u20, u21, u22, u23, u24, u25, u26, u27, u28, u29, u30, u31, u32, xs, rfl, hk, hu, hrow, hg, hcome⟩
      obtain ⟨j, rfl⟩ : ∃ j, k = j + 1 := ⟨k - 1, by have := hcome.room hrow.1 U2 hk; omega⟩
      have hcell := hrow.2.1 (j + 1) hk
      have hcell2 := hrow.2.1 j (by omega)
      have hfz := hrow.2.2 (j + 1)
      have hfz2 := hrow.2.2 j
      have hrow1 := hrow.put (j + 1) hk (48 + (u : Int) % 10)
      by_cases h10 : u < 10
      · have hrow2 := hrow1.put j (by omega) 45
        have hl : ((((xs.set (j + 1) (48 + (u : Int) % 10)).set j 45).drop j).map (fun n => UInt8.ofNat n.toNat)) = Lib.itoa n := by
          rw [drop_set _ j (by have := hrow1.1; omega), List.map_cons, hcome.last hrow.1 hk h10, HU.out, Lib.itoa, if_pos hn]
          rfl
        have hback := hrow2.text (P := Tryd.prog) j (20 - j) (by omega) 32 5 9 Tryd.underlying32 Tryd.underlying5 Tryd.underlying9 _ hl
        have hlast : Hid (Below w.heap.size w ((w'.setCell ⟨w.heap.size, j + 1, none⟩ (.int .u8 (48 + (u : Int) % 10))).setCell ⟨w.heap.size, j, none⟩ (.int .u8 45))) := (hg.setCell (by simp) _).setCell (by simp) _
        have hsl := slice20 (((w'.setCell ⟨w.heap.size, j + 1, none⟩ (.int .u8 (48 + (u : Int) % 10))).setCell ⟨w.heap.size, j, none⟩ (.int .u8 45))) w.heap.size j (j : Int) rfl _ rfl (by omega)
        clear hrow hrow1 hrow2 hl hg
        go_wp2_with fail
        try simp only [Exit.jump]
        go_ret
        exact ⟨rfl, hlast.out⟩
      · have hrow2 := Lib.hid hrow1
        obtain ⟨i, rfl⟩ : ∃ i, j = i + 1 := ⟨j - 1, by have := hcome.room2 hrow.1 U2 hk h10; omega⟩
        clear hrow1 hfz2 hcell2
        go_wp2_with fail
        go_step3
        refine ⟨rfl, ⟨i + 1, u / 10, _, _, _, _, _, _, _, _, _, _, _, _, _, _, _, _, _, _, _, _, _, _, _, _, _, _, _, _, rfl, by omega, by omega, hrow2.out, hg.setCell (by simp) _, hcome.next hrow.1 (by omega) h10⟩, ?_⟩
        simp [PrintM, intOf]; omega
  · have wu : IntKind.u64.wrap n = (U : Int) := by
      rw [HU.out, IntKind.wrap_u64]; omega
    go_enter Tryd.func7, Tryd.ntmps7
    go_wp2
    refine wp_scope_rounds 0 (PrintJ n U w) PrintM rfl ?_ ?_
    rotate_left
    · intro H
      go_wp2
      go_step3
      rename_i hK
      exact hK _ _ (H _ _ ⟨19, U, _, _, _, _, _, _, _, _, _, _, _, _, _, _, _, _, _, _, _, _, _, _, _, _, _, _, _, List.replicate 20 0, rfl, by decide, by omega, Row20.new _ _ _ _ rfl rfl, (Below.refl _ w).alloc (Nat.le_refl _) _, by unfold Come; simp⟩)
    · rintro a' w' ⟨k, u, u6, u7, u8, u9, u10, u11, u12, u13, u14, u15, u16, u17, u18, u19, u20, u21, u22, u23, u24, u25, u26, u27, u28, u29, u30, u31, u32, xs, rfl, hk, hu, hrow, hg, hcome⟩
      obtain ⟨j, rfl⟩ : ∃ j, k = j + 1 := ⟨k - 1, by have := hcome.room hrow.1 U2 hk; omega⟩
      have hcell := hrow.2.1 (j + 1) hk
      have hcell2 := hrow.2.1 j (by omega)
      have hfz := hrow.2.2 (j + 1)
      have hfz2 := hrow.2.2 j
      have hrow1 := hrow.put (j + 1) hk (48 + (u : Int) % 10)
      by_cases h10 : u < 10
      · have hl : (((xs.set (j + 1) (48 + (u : Int) % 10)).drop (j + 1)).map (fun n => UInt8.ofNat n.toNat)) = Lib.itoa n := by
          rw [hcome.last hrow.1 hk h10, HU.out, Lib.itoa, if_neg (by omega)]
          congr 1
          omega
        have hback := hrow1.text (P := Tryd.prog) (j + 1) (19 - j) (by omega) 32 5 9 Tryd.underlying32 Tryd.underlying5 Tryd.underlying9 _ hl
        have hlast : Hid (Below w.heap.size w (w'.setCell ⟨w.heap.size, j + 1, none⟩ (.int .u8 (48 + (u : Int) % 10)))) := hg.setCell (by simp) _
        have hsl := slice20 (w'.setCell ⟨w.heap.size, j + 1, none⟩ (.int .u8 (48 + (u : Int) % 10))) w.heap.size (j + 1) ((j : Int) + 1) (by omega) (19 - j) (by omega) (by omega)
        clear hrow hrow1 hl hg hcell2 hfz2
        go_wp2_with fail
        try simp only [Exit.jump]
        go_ret
        exact ⟨rfl, hlast.out⟩
      · have hrow2 := Lib.hid hrow1
        obtain ⟨i, rfl⟩ : ∃ i, j = i + 1 := ⟨j - 1, by have := hcome.room2 hrow.1 U2 hk h10; omega⟩
        clear hrow1 hfz2 hcell2
        go_wp2_with fail
        go_step3
        refine ⟨rfl, ⟨i + 1, u / 10, _, _, _, _, _, _, _, _, _, _, _, _, _, _, _, _, _, _, _, _, _, _, _, _, _, _, _, _, rfl, by omega, by omega, hrow2.out, hg.setCell (by simp) _, hcome.next hrow.1 (by omega) h10⟩, ?_⟩
        simp [PrintM, intOf]; omega
end Go.Proofs.YtdiedplmgclacaaDoor
