/- The document's own answer: letters, digits, where a word ends, the words, names. -/
import Derived.Test.YtikbgkndfmcfhaaDoorLxNm
namespace Go.Proofs.YtikbgkndfmcfhaaDoor
open Go.RowKit
set_option linter.unusedVariables false
theorem rdig_any (c : UInt8) (w : World) :
    Calls Tryd.prog 20 #[.int .u8 (c.toNat : Int)] w fun e w' => e = .returned (.bool (LxM.dg (LxM.i c))) ∧ w = w' := by
  have h1 := c.toNat_lt
  unfold LxM.i
  generalize (c.toNat : Int) = b
  go_enter Tryd.func20, Tryd.ntmps20
  go_wp2_with fail
  all_goals go_ret
  all_goals exact ⟨bool_ret (by simp [LxM.dg] <;> omega), rfl⟩
theorem rlet_any (c : UInt8) (w : World) :
    Calls Tryd.prog 19 #[.int .u8 (c.toNat : Int)] w fun e w' => e = .returned (.bool (LxM.lt (LxM.i c))) ∧ w = w' := by
  have h1 := c.toNat_lt
  unfold LxM.i
  generalize (c.toNat : Int) = b
  go_enter Tryd.func19, Tryd.ntmps19
  go_wp2_with fail
  all_goals go_ret
  all_goals exact ⟨bool_ret (by simp [LxM.lt] <;> omega), rfl⟩
/-- Where a word ends. -/
def rn (s : ByteArray) (k : Nat) : Nat := k + ((s.data.toList.drop k).takeWhile LxM.wdb).length
theorem rn_on {s : ByteArray} {k : Nat} (h : k < s.size) (hw : LxM.wd (LxM.i s[k]) = true) : rn s k = rn s (k + 1) := by
  unfold rn
  rw [drop_cons s k h, List.takeWhile_cons, if_pos (show LxM.wdb s[k] = true from hw)]
  simp; omega
theorem rn_off {s : ByteArray} {k : Nat} (h : k < s.size) (hw : LxM.wd (LxM.i s[k]) = false) : rn s k = k := by
  unfold rn
  rw [drop_cons s k h, List.takeWhile_cons, if_neg (show ¬ LxM.wdb s[k] = true by show ¬ LxM.wd (LxM.i s[k]) = true; rw [hw]; decide)]
  rfl
theorem rn_end {s : ByteArray} {k : Nat} (h : s.size ≤ k) : rn s k = k := by
  unfold rn
  rw [drop_none s k h]; rfl
set_option maxHeartbeats 2000000 in
theorem run_any (s : ByteArray) (k : Nat) (w : World) (hk : k ≤ s.size) (hs : s.size ≤ 1048576) :
    Calls Tryd.prog 18 #[.string s, .int .i64 (k : Int)] w fun e w' => e = .returned (.int .i64 (rn s k : Int)) ∧ w = w' := by
  obtain ⟨r, hr⟩ : ∃ r, rn s k = r := ⟨_, rfl⟩
  rw [hr]
  have HR := Lib.hid hr
  clear hr
  go_enter Tryd.func18, Tryd.ntmps18
  go_wp2_with fail
  go_loopw [1] (fun i wr => ∃ j : Nat, k ≤ j ∧ j ≤ s.size ∧ i = .int .i64 j ∧ rn s j = r ∧ wr = w) (fun i _ => s.size - (intOf i).toNat)
  case atStart => exact ⟨k, Nat.le_refl _, hk, rfl, HR.out, rfl⟩
  case round =>
    obtain ⟨j, hkj, hj, rfl, hrn, hwr⟩ := hrel
    obtain rfl := hwr
    have HRN := Lib.hid hrn
    have j0 : (0 : Int) ≤ (j : Int) := by omega
    clear hrn
    by_cases hlt : j < s.size
    · have j1 : (j : Int) < (s.size : Int) := by omega
      have wk1 : wrap64 ((j : Int) + 1) = ((j + 1 : Nat) : Int) := by unfold wrap64; omega
      have LE := fun w => rlet_any s[j] w
      have DI := fun w => rdig_any s[j] w
      have ON := Lib.hid (rn_on hlt)
      have OFF := Lib.hid (rn_off hlt)
      unfold LxM.wd at ON OFF
      generalize LxM.lt (LxM.i s[j]) = x at *
      generalize LxM.dg (LxM.i s[j]) = y at *
      cases x
      · cases y
        · go_wp2_with (first
            | (go_at_call 19; refine (LE _).mono ?_; rintro e w' ⟨rfl, rfl⟩)
            | (go_at_call 20; refine (DI _).mono ?_; rintro e w' ⟨rfl, rfl⟩))
          go_ret
          exact ⟨by rw [← HRN.out, OFF.out rfl]; rfl, rfl⟩
        · go_wp2_with (first
            | (go_at_call 19; refine (LE _).mono ?_; rintro e w' ⟨rfl, rfl⟩)
            | (go_at_call 20; refine (DI _).mono ?_; rintro e w' ⟨rfl, rfl⟩))
          refine ⟨⟨j + 1, by omega, hlt, by first | rfl | rw [wk1], by rw [← ON.out rfl]; exact HRN.out, trivial⟩, by simp [intOf]; omega⟩
      · go_wp2_with (first
          | (go_at_call 19; refine (LE _).mono ?_; rintro e w' ⟨rfl, rfl⟩)
          | (go_at_call 20; refine (DI _).mono ?_; rintro e w' ⟨rfl, rfl⟩))
        refine ⟨⟨j + 1, by omega, hlt, by first | rfl | rw [wk1], by rw [← ON.out rfl]; exact HRN.out, trivial⟩, by simp [intOf]; omega⟩
    · obtain rfl : j = s.size := by omega
      go_wp2_with fail
      go_ret
      exact ⟨by rw [← HRN.out, rn_end (Nat.le_refl _)]; rfl, rfl⟩
/-- A row of texts. -/
def Tx (w : World) (b : Nat) (ts : List ByteArray) : Prop := ∀ i (h : i < ts.length), w.cell? ⟨b, i, none⟩ = some (.string ts[i])
set_option maxHeartbeats 2000000 in
theorem has_any (ts : List ByteArray) (b c : Nat) (s : ByteArray) (w : World) (ht : Tx w b ts) (hn : ts.length ≤ c) (hc : ts.length ≤ 1000) :
    Calls Tryd.prog 24 #[.slice (some ⟨b, 0, none⟩) ts.length c, .string s] w fun e w' => e = .returned (.bool (ts.any fun t => t.toList == s.toList)) ∧ w = w' := by
  obtain ⟨n, en⟩ : ∃ n, ts.length = n := ⟨_, rfl⟩
  have EN := Lib.hid en
  have HT := Lib.hid ht
  obtain ⟨av, hav⟩ : ∃ av, (ts.any fun t => t.toList == s.toList) = av := ⟨_, rfl⟩
  rw [hav, en]
  have HAV := Lib.hid hav
  have c0 : (n : Int) ≤ (c : Int) := by omega
  have c1 : (n : Int) ≤ 1000 := by omega
  clear ht hav en hn hc
  go_enter Tryd.func24, Tryd.ntmps24
  go_wp2_with fail
  go_loopw [5] (fun i wr => ∃ j : Nat, j ≤ n ∧ i = .int .i64 j ∧ ((ts.take j).any fun t => t.toList == s.toList) = false ∧ wr = w) (fun i _ => n - (intOf i).toNat)
  case atStart => exact ⟨0, Nat.zero_le _, rfl, rfl, rfl⟩
  case round =>
    obtain ⟨j, hj, rfl, hall, hwr⟩ := hrel
    obtain rfl := hwr
    have HA := Lib.hid hall
    have j0 : (0 : Int) ≤ (j : Int) := by omega
    clear hall
    by_cases hlt : j < n
    · have j1 : (j : Int) < (n : Int) := by omega
      have wk1 : wrap64 ((j : Int) + 1) = ((j + 1 : Nat) : Int) := by unfold wrap64; omega
      have hjl : j < ts.length := by rw [EN.out]; exact hlt
      have cj := HT.out j hjl
      have NX := Lib.hid (List.take_succ_eq_append_getElem hjl)
      have MEM := Lib.hid (List.getElem_mem hjl)
      obtain ⟨t, et⟩ : ∃ t, ts[j] = t := ⟨_, rfl⟩
      rw [et] at cj NX MEM
      clear et
      cases hb : (t.toList == s.toList)
      · have HB := Lib.hid hb
        go_wp2_with fail
        refine ⟨⟨j + 1, hlt, by first | rfl | rw [wk1], by rw [NX.out, List.any_append, HA.out]; simp [HB.out], trivial⟩, by simp [intOf]; omega⟩
      · have HB := Lib.hid hb
        go_wp2_with fail
        go_ret
        exact ⟨by rw [← HAV.out, List.any_eq_true.2 ⟨t, MEM.out, HB.out⟩]; rfl, rfl⟩
    · obtain rfl : j = n := by omega
      go_wp2_with fail
      go_ret
      exact ⟨by rw [← HAV.out, ← HA.out, List.take_of_length_le (by rw [EN.out]; exact Nat.le_refl _)]; rfl, rfl⟩
def wordsB : List ByteArray := [⟨#[97, 110, 100]⟩, ⟨#[98, 114, 101, 97, 107]⟩, ⟨#[100, 111]⟩, ⟨#[101, 108, 115, 101]⟩, ⟨#[101, 108, 115, 101, 105, 102]⟩, ⟨#[101, 110, 100]⟩, ⟨#[102, 97, 108, 115, 101]⟩, ⟨#[102, 111, 114]⟩, ⟨#[102, 117, 110, 99, 116, 105, 111, 110]⟩, ⟨#[105, 102]⟩, ⟨#[105, 110]⟩, ⟨#[108, 111, 99, 97, 108]⟩, ⟨#[110, 105, 108]⟩, ⟨#[110, 111, 116]⟩, ⟨#[111, 114]⟩, ⟨#[114, 101, 112, 101, 97, 116]⟩, ⟨#[114, 101, 116, 117, 114, 110]⟩, ⟨#[116, 104, 101, 110]⟩, ⟨#[116, 114, 117, 101]⟩, ⟨#[117, 110, 116, 105, 108]⟩, ⟨#[119, 104, 105, 108, 101]⟩]
theorem words_data : LxM.words = wordsB.map (fun t : ByteArray => t.data.toList) := rfl
theorem any_contains (ts : List ByteArray) (s : ByteArray) : (ts.any fun t => t.toList == s.toList) = (ts.map fun t => t.data.toList).contains s.data.toList := by
  rw [List.contains_eq_any_beq, List.any_map]
  congr 1
  funext t
  simp only [Function.comp, Go.ByteArray.toList_eq]
  exact Bool.beq_comm
/-- Blocks made on the way. -/
theorem tx_new (w : World) (ts : List ByteArray) (t : TypeId) (C : Array Value) (hC : C = (ts.map Value.string).toArray) : Tx (w.alloc (.cells C t)) w.heap.size ts := fun i hi => by
  subst hC
  rw [World.cell?_alloc_mark]
  simp [hi]
set_option maxRecDepth 20000 in
set_option maxHeartbeats 4000000 in
theorem rword_any (s : ByteArray) (w : World) :
    Calls Tryd.prog 13 #[.string s] w fun e w' => e = .returned (.bool (LxM.isWord s.data.toList)) ∧ Below w.heap.size w w' := by
  have HT : Hid (∀ C, C = (wordsB.map Value.string).toArray → Tx (w.alloc (.cells C 9)) w.heap.size wordsB) := fun C hC => tx_new w wordsB 9 C hC
  have WE : LxM.isWord s.data.toList = wordsB.any fun t => t.toList == s.toList := by
    unfold LxM.isWord
    rw [words_data, any_contains]
  have HA : Hid (∀ b w, Tx w b wordsB → Calls Tryd.prog 24 #[.slice (some ⟨b, 0, none⟩) 21 21, .string s] w fun e w' => e = .returned (.bool (LxM.isWord s.data.toList)) ∧ w = w') := fun b w h => by
    rw [WE]; exact has_any wordsB b 21 s w h (by decide) (by decide)
  obtain ⟨av, hav⟩ : ∃ av, LxM.isWord s.data.toList = av := ⟨_, rfl⟩
  rw [hav] at HA ⊢
  clear hav WE
  go_enter Tryd.func13, Tryd.ntmps13
  go_wp2_with (go_at_call 24; refine (HA.out _ _ (HT.out _ rfl)).mono ?_; rintro e w' ⟨rfl, rfl⟩)
  go_ret
  exact ⟨rfl, (Below.refl _ _).alloc (Nat.le_refl _) _⟩
end Go.Proofs.YtikbgkndfmcfhaaDoor
