/- The walk of the law DiskGarbles, out of what is asked of package disk. -/
import Derived.Test.YtlbokfkindiojaaDiskParts
import Derived.Deep.RegionHeld3
namespace Go.Proofs.Ytlbokfkindiojaa
open Go.RowKit
set_option linter.unusedVariables false

/-- The disk of DiskGarbles, call by call. -/
def gA (b : List UInt8) (sync : Nat) : DiskM.D := ⟨[⟨[102], b, sync⟩], 1048576, false⟩
def gB (b : List UInt8) (from_ : Nat) (n : Nat) (down : Bool) : DiskM.D := ⟨[⟨[102], DiskM.garbled from_ 0 b, n⟩], 1048576, down⟩
theorem g1 (a : List UInt8) (h : a.length ≤ 2000) : DiskM.append (DiskM.fresh 1048576) [102] a = (0, gA a 0) :=
  full_new rfl (by decide) (by show (a.length : Int) ≤ 1048576 - 0; omega) rfl
theorem g2 (a : List UInt8) : DiskM.sync (gA a 0) [102] = (0, gA a a.length) := rfl
theorem g3 (a r : List UInt8) (n : Nat) (h : a.length ≤ 2000) (k : r.length ≤ 2000) : DiskM.append (gA a n) [102] r = (0, gA (a ++ r) n) :=
  full_old (f := ⟨[102], a, n⟩) rfl (by decide) (by
    have u : DiskM.used (gA a n).l = a.length := by simp [DiskM.used, gA]
    rw [u]; show (r.length : Int) ≤ 1048576 - (a.length : Int); omega) rfl
theorem g4 (b : List UInt8) (k f n : Nat) (hn : b.length = n) (h : b.length ≤ 2000) (hk : k ≤ n) (hf : f = max k ((n - 1) / 512 * 512)) : DiskM.crash (gA b k) 1048576 true = gB b f n true := by
  subst hn
  have e : DiskM.stays 1048576 ⟨[102], b, k⟩ = b.length := by
    show k + (max 0 (min (1048576 : Int) ((b.length : Int) - k))).toNat = b.length
    omega
  show (⟨[DiskM.crashed 1048576 true ⟨[102], b, k⟩], 1048576, true⟩ : DiskM.D) = _
  unfold DiskM.crashed gB
  simp only [e, List.take_length, if_true, ← hf]
theorem g5 (b : List UInt8) (f n : Nat) : DiskM.start (gB b f n true) = (0, gB b f n false) := rfl
theorem garbled_length : ∀ (f i : Nat) (l : List UInt8), (DiskM.garbled f i l).length = l.length
  | _, _, [] => rfl
  | f, i, c :: r => by simp [DiskM.garbled, garbled_length f (i + 1) r]
theorem garbled_at : ∀ (f i : Nat) (l : List UInt8) (j : Nat) (h : j < l.length) (h' : j < (DiskM.garbled f i l).length), (DiskM.garbled f i l)[j] = if f ≤ i + j then l[j] ^^^ 0xa5 else l[j]
  | _, _, [], j, h, _ => absurd h (by simp)
  | f, i, c :: r, 0, _, _ => by simp [DiskM.garbled]
  | f, i, c :: r, j + 1, h, h' => by
    simp only [DiskM.garbled, List.getElem_cons_succ]
    rw [garbled_at f (i + 1) r j (by simpa using h)]
    rw [show i + 1 + j = i + (j + 1) by omega]
theorem xor_val (x : UInt8) : bits .xor .u8 (x.toNat : Int) 165 = ((x ^^^ 0xa5).toNat : Int) := by
  have h := b8_xor x 0xa5
  exact h
set_option maxRecDepth 20000 in
set_option maxHeartbeats 4000000 in
theorem garbles_walk {R : World → (Nat → Prop) → Addr → DiskM.D → Prop} (D : DiskOk R) (A : Option Addr) (b : List UInt8) (n : Nat) (hn : b.length = n) (cb : Nat) (t : Int) (k : Nat) (hA : A = none → cb = 0) (hc : n ≤ cb) (w : World) (hb : Bs w w.heap.size A b) (l0 : 0 < n) (lb : n ≤ 2000)
    (hk : k ≤ n) (ht : wrap64 ((IntKind.u64.wrap t).tmod ((n : Int) + 1)) = (k : Int)) :
    Calls Try.prog 5 #[.slice A n cb, .int .i64 t] w fun e w' => e = .returned (.bool true) ∧ Below w.heap.size w w' := by
  have DD := Lib.hid D
  have HA := Lib.hid hA
  have KB := Lib.hid hb
  have HN := Lib.hid hn
  clear D hA hb
  have k1 : (0 : Int) ≤ (k : Int) := by omega
  have k2 : (k : Int) ≤ (n : Int) := by omega
  have k3 : (k : Int) ≤ (cb : Int) := by omega
  have k4 : (n : Int) ≤ (cb : Int) := by omega
  have k5 : (0 : Int) < (n : Int) := by omega
  have k7 : ((n : Int) == 0) = false := beq_eq_false_iff_ne.mpr (by omega)
  have k8 : (n : Int) ≤ 2000 := by omega
  have L1 : Hid ((b.take k).length = k ∧ (b.drop k).length = n - k ∧ k ≤ 2000 ∧ n - k ≤ 2000) := by
    show (b.take k).length = k ∧ (b.drop k).length = n - k ∧ k ≤ 2000 ∧ n - k ≤ 2000
    rw [List.length_take, List.length_drop, HN.out]; omega
  have KF := Lib.hid (KB.out.front k)
  obtain ⟨A', c', HR⟩ : ∃ (A' : Option Addr) (c' : Nat), Hid ((A' = none → c' = 0) ∧ Bs w w.heap.size A' (b.drop k) ∧ ∀ W : World, (Instr.slice 39 (.slice A n cb) (some (.int .i64 (k : Int))) none none).run Try.prog W = .ok (.slice A' (n - k) c') W) := ⟨_, _, ⟨rest_none HA.out, KB.out.rest k cb (by rw [HN.out]; exact hk) (by rw [HN.out]; exact hc), fun W => slice_from W A n cb k hk hc⟩⟩
  have hsl := HR.out.2.2
  obtain ⟨s, HS⟩ : ∃ s : Nat, Hid (s = (n - 1) / 512 * 512) := ⟨_, rfl⟩
  obtain ⟨f, HF⟩ : ∃ f : Nat, Hid (f = max k ((n - 1) / 512 * 512)) := ⟨_, rfl⟩
  have HL : Hid (b.length ≤ 2000) := by show b.length ≤ 2000; rw [HN.out]; exact lb
  go_enter Try.func5, Try.ntmps5
  go_wp2_with fail
  go_at_call 8
  refine (st_new DD.out 1048576 (by omega) w w (Below.refl _ _)).mono ?_
  rintro e w1 ⟨p, rfl, h1⟩
  have S1 := Lib.hid h1
  clear h1
  go_wp2_with fail
  go_at_call 12
  refine (st_append_to DD.out S1.out ⟨#[102]⟩ A (b.take k) k cb L1.out.1 (by omega) HA.out (KF.out.later S1.out.below) (by decide : 0 < 1000) (g1 _ (by rw [L1.out.1]; exact L1.out.2.2.1))).mono ?_
  rintro e w2 ⟨rfl, h2⟩
  have S2 := Lib.hid h2
  clear S1 h2
  go_wp2_with fail
  go_at_call 13
  refine (S2.out.num (congrArg Prod.fst (g2 _)) (congrArg Prod.snd (g2 _)) fun F hr => DD.out.sync hr ⟨#[102]⟩ (by decide)).mono ?_
  rintro e w3 ⟨rfl, h3⟩
  have S3 := Lib.hid h3
  clear S2 h3
  go_wp2_with fail
  go_at_call 12
  refine (st_append_to DD.out S3.out ⟨#[102]⟩ A' (b.drop k) (n - k) c' L1.out.2.1 (by omega) HR.out.1 (HR.out.2.1.later S3.out.below) (by decide : 1 < 1000) (g3 _ _ _ (by rw [L1.out.1]; exact L1.out.2.2.1) (by rw [L1.out.2.1]; exact L1.out.2.2.2))).mono ?_
  rintro e w4 ⟨rfl, h4⟩
  rw [List.take_append_drop, L1.out.1] at h4
  have S4 := Lib.hid h4
  clear S3 h4
  go_wp2_with fail
  go_at_call 14
  refine (S4.out.step (M' := gB b f n true) fun F hr => by rw [← g4 b k f n HN.out HL.out hk HF.out]; exact DD.out.crash hr 1048576 true (by decide)).mono ?_
  rintro e w5 ⟨rfl, h5⟩
  have S5 := Lib.hid h5
  clear S4 h5
  go_wp2_with fail
  go_at_call 16
  refine (S5.out.num (congrArg Prod.fst (g5 b f _)) (congrArg Prod.snd (g5 b f _)) fun F hr => DD.out.start hr).mono ?_
  rintro e w6 ⟨rfl, h6⟩
  have S6 := Lib.hid h6
  clear S5 h6
  go_wp2_with fail
  go_at_call 15
  refine (S6.out.read_to DD.out ⟨#[102]⟩ (by decide) (DiskM.garbled f 0 b) 0 n ((garbled_length _ _ _).trans HN.out) rfl).mono ?_
  rintro e w7 ⟨A7, c7, rfl, -, hc7, hb7, h7, -⟩
  have S7 := Lib.hid h7
  have HB7 := Lib.hid hb7
  clear S6 h7 hb7
  go_wp2_with fail
  rw [show ((n : Int) - 1) / 512 * 512 = (s : Int) by have := HS.out; omega]
  have HC : Hid (∀ (j : Nat) (W : World), j < n → Below w7.heap.size w7 W → ∃ (pA pC : Addr) (x y : UInt8), A = some pA ∧ A7 = some pC ∧ W.cell? (pA.add j) = some (.int .u8 (x.toNat : Int)) ∧ W.cell? (pC.add j) = some (.int .u8 (y.toNat : Int)) ∧ y = if f ≤ j then x ^^^ 0xa5 else x) := by
    intro j W hj hW
    have hb : j < b.length := by rw [HN.out]; exact hj
    have hg : j < (DiskM.garbled f 0 b).length := by rw [garbled_length]; exact hb
    obtain ⟨pA, ea, -, ca⟩ := KB.out.later (below_then S7.out.below hW) j hb
    obtain ⟨pC, ec, -, cc⟩ := HB7.out.later hW j hg
    refine ⟨pA, pC, _, _, ea, ec, ca, cc, ?_⟩
    rw [garbled_at f 0 b j hb hg, Nat.zero_add]
  clear HB7 KB HR hsl KF
  go_loopw [11] (fun i wr => ∃ j : Nat, j ≤ n ∧ i = .int .i64 j ∧ Below w7.heap.size w7 wr) (fun i _ => n - (intOf i).toNat)
  case atStart => exact ⟨0, Nat.zero_le _, rfl, Below.refl _ _⟩
  case round =>
    obtain ⟨j, hj, rfl, hbw⟩ := hrel
    have BW := Lib.hid hbw
    clear hbw
    by_cases hlt : j < n
    · obtain ⟨pA, pC, x, y, rfl, rfl, ca, cc, hy⟩ := HC.out j wr hlt BW.out
      have HY := Lib.hid hy
      clear hy
      have j1 : (0 : Int) ≤ (j : Int) := by omega
      have j2 : (j : Int) < (n : Int) := by omega
      have hx := xor_val x
      have hy : (y.toNat : Int) = if k ≤ j ∧ s ≤ j then ((x.toNat ^^^ 165 : Nat) : Int) else (x.toNat : Int) := by
        have e := HY.out
        have e1 := HF.out
        have e2 := HS.out
        by_cases c : f ≤ j
        · rw [if_pos c] at e
          rw [if_pos (by omega), e, UInt8.toNat_xor]
          rfl
        · rw [if_neg c] at e
          rw [if_neg (by omega), e]
      go_wp2_with fail
      case roundEnd => exact ⟨⟨j + 1, by omega, by go_num, BW.out⟩, by simp [intOf]; omega⟩
      case roundEnd => exact ⟨⟨j + 1, by omega, by go_num, BW.out⟩, by simp [intOf]; omega⟩
      case roundEnd => exact ⟨⟨j + 1, by omega, by go_num, BW.out⟩, by simp [intOf]; omega⟩
      all_goals
        exfalso
        simp_all
    · obtain rfl : j = n := by omega
      go_wp2_with fail
      go_at_call 9
      refine (told_any DD.out wr).mono ?_
      rintro e w8 ⟨rfl, h8⟩
      go_wp2_with fail
      go_ret
      exact ⟨rfl, below_then S7.out.below (below_then BW.out h8)⟩
theorem garbles_short {R : World → (Nat → Prop) → Addr → DiskM.D → Prop} (D : DiskOk R) (A : Option Addr) (n cb : Nat) (t : Int) (w : World) (h : n = 0 ∨ 2000 < n) (hm : n ≤ maxLen) :
    Calls Try.prog 5 #[.slice A n cb, .int .i64 t] w fun e w' => e = .returned (.bool true) ∧ Below w.heap.size w w' := by
  have DD := Lib.hid D
  unfold maxLen at *
  clear D
  rcases h with rfl | h
  · go_enter Try.func5, Try.ntmps5
    go_wp2_with fail
    go_at_call 9
    refine (told_any DD.out w).mono ?_
    rintro e w1 ⟨rfl, h1⟩
    go_wp2_with fail
    go_ret
    exact ⟨rfl, h1⟩
  · have l1 : (2000 : Int) < (n : Int) := by omega
    have l2 : ((n : Int) == 0) = false := beq_eq_false_iff_ne.mpr (by omega)
    go_enter Try.func5, Try.ntmps5
    go_wp2_with fail
    go_at_call 9
    refine (told_any DD.out w).mono ?_
    rintro e w1 ⟨rfl, h1⟩
    go_wp2_with fail
    go_ret
    exact ⟨rfl, h1⟩
theorem garbles_law {R : World → (Nat → Prop) → Addr → DiskM.D → Prop} (D : DiskOk R) (A : Option Addr) (b : List UInt8) (cb : Nat) (t : Int) (hA : A = none → cb = 0) (hc : b.length ≤ cb) (w : World) (hb : Bs w w.heap.size A b) (lb : b.length ≤ maxLen) :
    Calls Try.prog 5 #[.slice A b.length cb, .int .i64 t] w fun e w' => e = .returned (.bool true) ∧ Below w.heap.size w w' := by
  by_cases h : b.length = 0 ∨ 2000 < b.length
  · exact garbles_short D A b.length cb t w h lb
  · obtain ⟨k, hk, ht⟩ := mod_len t b.length (by omega)
    exact garbles_walk D A b b.length rfl cb t k hA hc w hb (by omega) (by omega) hk ht
end Go.Proofs.Ytlbokfkindiojaa
