/- The walk of the law DiskKeeps, out of what is asked of package disk. -/
import Derived.Test.YtlbokfkindiojaaDiskGarbles
import Derived.Test.YtlbokfkindiojaaSlices
import Derived.Test.YtlbokfkindiojaaConv
import Derived.Deep.RegionHeld3
import Derived.Deep.RegionWith
namespace Go.Proofs.Ytlbokfkindiojaa
open Go.RowKit
set_option linter.unusedVariables false

/-- The disk of DiskKeeps behind j pieces: a was written, s of it synced. -/
def kM (j : Nat) (a : List UInt8) (s : Nat) : DiskM.D := if j = 0 then DiskM.fresh 1048576 else ⟨[⟨[102], a, s⟩], 1048576, false⟩
theorem k1 (j : Nat) (a b : List UInt8) (s : Nat) (h0 : j = 0 → a = [] ∧ s = 0) (ha : a.length ≤ 6000) (hb : b.length ≤ 300) : DiskM.append (kM j a s) [102] b = (0, kM (j + 1) (a ++ b) s) := by
  by_cases e : j = 0
  · obtain ⟨rfl, rfl⟩ := h0 e
    subst e
    exact full_new rfl (by decide) (by show (b.length : Int) ≤ 1048576 - 0; omega) rfl
  · have k : kM j a s = ⟨[⟨[102], a, s⟩], 1048576, false⟩ := if_neg e
    rw [k]
    exact full_old (f := ⟨[102], a, s⟩) rfl (by decide) (by
      have u : DiskM.used [(⟨[102], a, s⟩ : DiskM.F)] = a.length := by simp [DiskM.used]
      show (b.length : Int) ≤ (1048576 : Int) - DiskM.used [(⟨[102], a, s⟩ : DiskM.F)]
      rw [u]; omega) rfl
theorem kM_len (j : Nat) (a : List UInt8) (s : Nat) : (kM j a s).l.length < 1000 := by
  unfold kM
  split
  · show 0 < 1000; decide
  · show 1 < 1000; decide
theorem k2 (j : Nat) (a : List UInt8) (s : Nat) : DiskM.sync (kM (j + 1) a s) [102] = (0, kM (j + 1) a a.length) := rfl
def kA (a : List UInt8) (s : Nat) : DiskM.D := ⟨[⟨[102], a, s⟩], 1048576, false⟩
def kB (c : List UInt8) (n : Nat) (down : Bool) : DiskM.D := ⟨[⟨[102], c, n⟩], 1048576, down⟩
def kN (keep : Int) (a : List UInt8) (s : Nat) : Nat := s + (max 0 (min keep ((a.length : Int) - s))).toNat
def kC (keep : Int) (g : Bool) (a : List UInt8) (s : Nat) : List UInt8 := (DiskM.crashed keep g ⟨[102], a, s⟩).b
theorem k3 (keep : Int) (g : Bool) (a : List UInt8) (s : Nat) : DiskM.crash (kA a s) keep g = kB (kC keep g a s) (kN keep a s) true := rfl
theorem kN_le (keep : Int) (a : List UInt8) (s : Nat) (h : s ≤ a.length) : kN keep a s ≤ a.length := by unfold kN; omega
theorem kN_ge (keep : Int) (a : List UInt8) (s : Nat) : s ≤ kN keep a s := by unfold kN; omega
theorem kC_eq (keep : Int) (g : Bool) (a : List UInt8) (s : Nat) : kC keep g a s = if g then DiskM.garbled (max s ((kN keep a s - 1) / 512 * 512)) 0 (a.take (kN keep a s)) else a.take (kN keep a s) := rfl
theorem kC_length (keep : Int) (g : Bool) (a : List UInt8) (s : Nat) (h : s ≤ a.length) : (kC keep g a s).length = kN keep a s := by
  have q := kN_le keep a s h
  rw [kC_eq]
  cases g
  · simp; omega
  · simp [garbled_length]; omega
theorem kC_front (keep : Int) (g : Bool) (a : List UInt8) (s : Nat) (h : s ≤ a.length) : (kC keep g a s).take s = a.take s := by
  have q := kN_le keep a s h
  have q2 := kN_ge keep a s
  rw [kC_eq]
  cases g
  · simp only [Bool.false_eq_true, if_false, List.take_take]
    rw [Nat.min_eq_left q2]
  · simp only [if_true]
    apply List.ext_getElem
    · simp [garbled_length]; omega
    · intro i h1 h2
      have hi : i < s := by simp at h1; omega
      simp only [List.getElem_take]
      rw [garbled_at _ 0 _ i (by simp; omega) (by rw [garbled_length]; simp; omega), if_neg (by omega), List.getElem_take]
/-- What holds at the head of the loop. -/
structure KAt (l : List ByteArray) (j : Nat) (a : List UInt8) (s : Nat) : Prop where
  j1 : j ≤ l.length
  j2 : j ≤ 20
  a1 : a.length ≤ 300 * j
  s1 : s ≤ a.length
  z : j = 0 → a = [] ∧ s = 0
def KInv (R : World → (Nat → Prop) → Addr → DiskM.D → Prop) (w : World) (p : Addr) (l : List ByteArray) (va vs i : Value) (wr : World) : Prop :=
  ∃ (j : Nat) (xa xs : ByteArray) (a : List UInt8) (s : Nat), KAt l j a s ∧ xa.data.toList = a ∧ xs.data.toList = a.take s ∧ va = .string xa ∧ vs = .string xs ∧ i = .int .i64 j ∧ St R w wr p (kM j a s)
theorem St.synced_b {R : World → (Nat → Prop) → Addr → DiskM.D → Prop} (D : DiskOk R) {w0 w : World} {p : Addr} {M : DiskM.D} (h : St R w0 w p M) (s : ByteArray) (hs : s.size ≤ maxLen) (n : Nat) (hn : DiskM.synced M s.data.toList = n) :
    Calls Try.prog 17 #[.pointer (some p), .string s] w fun e w' => e = .returned (.int .i64 (n : Int)) ∧ Below w.heap.size w w' := by
  subst hn
  obtain ⟨F, hr, hf⟩ := h.1
  exact D.synced hr s hs
set_option maxRecDepth 20000 in
set_option maxHeartbeats 4000000 in
theorem keeps_walk {R : World → (Nat → Prop) → Addr → DiskM.D → Prop} (D : DiskOk R) (A B : Option Addr) (l : List ByteArray) (bs : List Bool) (n m ca cb : Nat) (hn : l.length = n) (hm : bs.length = m) (keep : Int) (g : Bool) (hA : A = none → ca = 0) (hc : n ≤ ca) (w : World) (hl : Row w A (l.map Value.string)) (hb : Row w B (bs.map Value.bool)) (wk : (Lit.int .i64 keep).wf = true) :
    Calls Try.prog 4 #[.slice A n ca, .slice B m cb, .int .i64 keep, .bool g] w fun e w' => e = .returned (.bool true) ∧ Below w.heap.size w w' := by
  have DD := Lib.hid D
  have HA := Lib.hid hA
  have KL := Lib.hid hl
  have KS := Lib.hid hb
  have HN := Lib.hid hn
  have HM := Lib.hid hm
  clear D hA hl hb hn hm
  go_enter Try.func4, Try.ntmps4
  go_wp2_with fail
  go_at_call 8
  refine (st_new DD.out 1048576 (by omega) w w (Below.refl _ _)).mono ?_
  rintro e w1 ⟨p, rfl, h1⟩
  have S1 := Lib.hid h1
  clear h1
  go_wp2_with fail
  go_loopw [11, 12, 13] (fun va vs i wr => KInv R w p l va vs i wr) (fun va vs i _ => n - (intOf i).toNat)
  case atStart => exact ⟨0, ⟨#[]⟩, ⟨#[]⟩, [], 0, ⟨Nat.zero_le _, Nat.zero_le _, Nat.le_refl _, Nat.le_refl _, fun _ => ⟨rfl, rfl⟩⟩, rfl, rfl, rfl, rfl, rfl, S1.out⟩
  case round =>
    obtain ⟨j, xa, xs, a, s, hk, hxa, hxs, rfl, rfl, rfl, hst⟩ := hrel
    have HXA := Lib.hid hxa
    have HXS := Lib.hid hxs
    have hla : xa.size = a.length := by rw [← hxa]; simp
    have hls : xs.size = s := by
      have e : xs.size = xs.data.toList.length := by simp
      rw [e, hxs, List.length_take]; have := hk.s1; omega
    have HLA := Lib.hid hla
    have HLS := Lib.hid hls
    clear hxa hxs hla hls
    have SR := Lib.hid hst
    have HK := Lib.hid hk
    clear hst hk
    by_cases hlt : j < n ∧ j < 20
    · obtain ⟨h1, h2⟩ := hlt
      have j0 : (0 : Int) ≤ (j : Int) := by omega
      have j1 : (j : Int) < (n : Int) := by omega
      have j2 : (j : Int) < 20 := by omega
      obtain ⟨pA, rfl, -, cA⟩ := (KL.out.later SR.out.below).at_ j (by rw [HN.out]; exact h1)
      obtain ⟨x, hx⟩ : ∃ x, x = l[j]'(by rw [HN.out]; exact h1) := ⟨_, rfl⟩
      have HX := Lib.hid hx
      rw [← hx] at cA
      clear hx
      by_cases hsz : x.size ≤ 300
      · have z1 : (x.size : Int) ≤ 300 := by omega
        obtain ⟨W1, c1, hcv, bW1, hc1, hbs1⟩ := conv_str wr x
        have HB1 := Lib.hid hbs1
        have hxl : x.data.toList.length = x.size := by simp
        have HX1 := Lib.hid hxl
        have HX2 : Hid (x.size ≤ 4096) := by show x.size ≤ 4096; omega
        have HX3 := Lib.hid (k1 j a x.data.toList s HK.out.z (by have := HK.out.a1; omega) (by omega))
        clear hxl
        have S2 := Lib.hid (SR.out.keep DD.out bW1)
        clear bW1 hbs1
        go_wp2_with fail
        go_at_call 12
        refine (st_append_to DD.out S2.out ⟨#[102]⟩ (some ⟨wr.heap.size, 0, none⟩) x.data.toList x.size c1 HX1.out HX2.out (fun e => nomatch e) HB1.out (kM_len j a s) HX3.out).mono ?_
        rintro e w2 ⟨rfl, h3⟩
        have S3 := Lib.hid h3
        obtain ⟨pA', e', -, cA'⟩ := (KL.out.later h3.below).at_ j (by rw [HN.out]; exact h1)
        obtain rfl : pA = pA' := by injection e'
        rw [← HX.out] at cA'
        clear h3 hcv HB1 S2 SR e' cA
        have HK' : Hid (KAt l (j + 1) (a ++ x.data.toList) s) := by
          have q := HK.out
          have hn := HN.out
          exact ⟨by omega, by omega, by rw [List.length_append]; have := q.a1; have : x.data.toList.length = x.size := by simp
                                        omega, by rw [List.length_append]; have := q.s1; omega, fun e => by omega⟩
        have za : ¬ 9223372036854775807 < xa.size + x.size := by have := HK.out.a1; have := HLA.out; omega
        have eA : Hid ((xa ++ x).data.toList = a ++ x.data.toList) := by
          show (xa ++ x).data.toList = _
          rw [← HXA.out]
          simp
        have eS : Hid (xs.data.toList = (a ++ x.data.toList).take s) := by
          show xs.data.toList = _
          rw [HXS.out, List.take_append_of_le_length HK.out.s1]
        have HK2 : Hid (KAt l (j + 1) (a ++ x.data.toList) (a ++ x.data.toList).length) := by
          have q := HK'.out
          exact ⟨q.j1, q.j2, q.a1, Nat.le_refl _, fun e => by omega⟩
        by_cases hm : j < m
        · obtain ⟨pB, rfl, -, cB⟩ := (KS.out.later S3.out.below).at_ j (by rw [HM.out]; exact hm)
          have m1 : (j : Int) < (m : Int) := by omega
          cases hbv : bs[j]'(by rw [HM.out]; exact hm)
          · rw [hbv] at cB
            go_wp2_with fail
            exact ⟨⟨j + 1, xa ++ x, xs, a ++ x.data.toList, s, HK'.out, eA.out, eS.out, rfl, rfl, by go_num, S3.out⟩, by simp [intOf]; omega⟩
          · rw [hbv] at cB
            go_wp2_with fail
            go_at_call 13
            refine (S3.out.num (congrArg Prod.fst (k2 j _ s)) (congrArg Prod.snd (k2 j _ s)) fun F hr => DD.out.sync hr ⟨#[102]⟩ (by decide)).mono ?_
            rintro e w3 ⟨rfl, h4⟩
            have S4 := Lib.hid h4
            clear S3 h4 cB cA'
            go_wp2_with fail
            exact ⟨⟨j + 1, xa ++ x, xa ++ x, a ++ x.data.toList, _, HK2.out, eA.out, by rw [eA.out, List.take_length], rfl, rfl, by go_num, S4.out⟩, by simp [intOf]; omega⟩
        · have m1 : (m : Int) ≤ (j : Int) := by omega
          go_wp2_with fail
          exact ⟨⟨j + 1, xa ++ x, xs, a ++ x.data.toList, s, HK'.out, eA.out, eS.out, rfl, rfl, by go_num, S3.out⟩, by simp [intOf]; omega⟩
      · have z1 : 300 < (x.size : Int) := by omega
        go_wp2_with fail
        go_at_call 9
        refine (told_any DD.out wr).mono ?_
        rintro e w2 ⟨rfl, h2⟩
        go_wp2_with fail
        go_ret
        exact ⟨rfl, below_then SR.out.below h2⟩
    · have hjn := HN.out
      by_cases h0 : n = 0
      · have n1 : (n : Int) ≤ (j : Int) := by omega
        have n2 : ((n : Int) == 0) = true := by simp [h0]
        go_wp2_with fail
        go_at_call 9
        refine (told_any DD.out wr).mono ?_
        rintro e w2 ⟨rfl, h2⟩
        go_wp2_with fail
        go_ret
        exact ⟨rfl, below_then SR.out.below h2⟩
      · have n2 : ((n : Int) == 0) = false := beq_eq_false_iff_ne.mpr (by omega)
        have j0 : (0 : Int) ≤ (j : Int) := by omega
        have n0 : (0 : Int) < (n : Int) := by omega
        have j3 : j ≠ 0 := by omega
        have S2 : Hid (St R w wr p (kA a s)) := by
          have h := SR.out
          rwa [show kM j a s = kA a s from if_neg j3] at h
        obtain ⟨c, HCv⟩ : ∃ c, Hid (c = kC keep g a s) := ⟨_, rfl⟩
        obtain ⟨N, HNv⟩ : ∃ N, Hid (N = kN keep a s) := ⟨_, rfl⟩
        have HCl : Hid (c.length = N) := by
          show c.length = N
          rw [HCv.out, HNv.out]
          exact kC_length keep g a s HK.out.s1
        have HCf : Hid ((c.take s).toArray = xs.data) := by
          show (c.take s).toArray = xs.data
          rw [HCv.out, kC_front keep g a s HK.out.s1, ← HXS.out]
        have HNa : Hid (N ≤ a.length ∧ s ≤ N ∧ a.length ≤ 6000) := by
          have q := HK.out
          have := q.a1
          have := q.j2
          exact ⟨by rw [HNv.out]; exact kN_le keep a s q.s1, by rw [HNv.out]; exact kN_ge keep a s, by omega⟩
        have HK3 : Hid (DiskM.crash (kA a s) keep g = kB c N true) := by
          show DiskM.crash (kA a s) keep g = kB c N true
          rw [HCv.out, HNv.out]
          exact k3 keep g a s
        have hcode : (n : Int) ≤ (j : Int) ∨ ((j : Int) < (n : Int) ∧ (20 : Int) ≤ (j : Int)) := by omega
        rcases hcode with n1 | ⟨n1, n3⟩
        all_goals
          go_wp2_with fail
          go_at_call 14
          refine (S2.out.step (M' := kB c N true) fun F hr => by rw [← HK3.out]; exact DD.out.crash hr keep g wk).mono ?_
          rintro e w2 ⟨rfl, h2⟩
          have S3 := Lib.hid h2
          clear h2
          go_wp2_with fail
          go_at_call 15
          refine (S3.out.read_to DD.out ⟨#[102]⟩ (by decide) [] 23 0 rfl rfl).mono ?_
          rintro e w3 ⟨A3, c3, rfl, -, -, -, h3, -⟩
          have S4 := Lib.hid h3
          clear S3 h3
          go_wp2_with fail
          go_at_call 12
          refine (st_append_to DD.out S4.out ⟨#[102]⟩ none [] 0 0 rfl (by omega) (fun _ => rfl) Bs.empty (by decide : 1 < 1000) (rfl : DiskM.append (kB c N true) [102] [] = (23, kB c N true))).mono ?_
          rintro e w4 ⟨rfl, h4⟩
          have S5 := Lib.hid h4
          clear S4 h4
          go_wp2_with fail
          go_at_call 16
          refine (S5.out.num (r := 0) (M' := kB c N false) rfl rfl fun F hr => DD.out.start hr).mono ?_
          rintro e w5 ⟨rfl, h5⟩
          have S6 := Lib.hid h5
          clear S5 h5
          go_wp2_with fail
          go_at_call 15
          refine (S6.out.read_to DD.out ⟨#[102]⟩ (by decide) c 0 N HCl.out rfl).mono ?_
          rintro e w6 ⟨A6, c6, rfl, hA6, hc6, hb6, h6, -⟩
          have S7 := Lib.hid h6
          have HB := Lib.hid hb6
          clear S6 h6 hb6
          have b0 : (0 : Int) ≤ (xs.size : Int) := by omega
          have b1 : (xs.size : Int) ≤ (N : Int) := by have := HNa.out; have := HLS.out; omega
          have b2 : (xs.size : Int) ≤ (c6 : Int) := by omega
          have b3 : (xs.size : Int) ≤ (xa.size : Int) := by have := HNa.out; have := HLS.out; have := HLA.out; omega
          have b4 : (xa.size : Int) ≤ 6000 := by have := HNa.out; have := HLA.out; omega
          have cv1 : (convert 39 9 (.slice A6 xs.size c6)).run Try.prog w6 = .ok (.string xs) w6 := by
            have q := HNa.out
            have h := convert_n c6 xs.size (by rw [List.length_take, HCl.out, HLS.out]; omega) (HB.out.front s)
            rw [HCf.out] at h
            exact h
          have cv2 : (convert 39 9 (.slice A6 N c6)).run Try.prog w6 = .ok (.string ⟨c.toArray⟩) w6 := convert_n c6 N HCl.out HB.out
          have hq : ((xa.size : Int) - (xs.size : Int) < keep ∧ xs.size < xa.size ∧ (N : Int) = (xs.size : Int) + ((xa.size : Int) - (xs.size : Int))) ∨
              ((xa.size : Int) - (xs.size : Int) < keep ∧ ¬ xs.size < xa.size ∧ (N : Int) = (xs.size : Int)) ∨
              (keep ≤ (xa.size : Int) - (xs.size : Int) ∧ 0 < keep ∧ (N : Int) = (xs.size : Int) + keep) ∨
              (keep ≤ (xa.size : Int) - (xs.size : Int) ∧ keep ≤ 0 ∧ (N : Int) = (xs.size : Int)) := by
            have e := HNv.out
            unfold kN at e
            rw [HLA.out, HLS.out]
            have := HK.out.s1
            omega
          rcases hq with ⟨q1, q2, q3⟩ | ⟨q1, q2, q3⟩ | ⟨q1, q2, q3⟩ | ⟨q1, q2, q3⟩
          all_goals
            go_wp2_with fail
            go_at_call 17
            refine (S7.out.synced_b DD.out ⟨#[102]⟩ (by decide) N rfl).mono ?_
            rintro e w7 ⟨rfl, h7⟩
            have S8 := Lib.hid (S7.out.keep DD.out h7)
            have HB7 := Lib.hid (HB.out.later h7)
            clear h7 cv1 cv2
            go_wp2_with fail
            rw [← q3]
            clear q3 q2 q1
            have HT : Hid (∀ W : World, Below w7.heap.size w7 W → Below w7.heap.size w7 W ∧ (convert 39 9 (.slice A6 N c6)).run Try.prog W = .ok (.string ⟨c.toArray⟩) W) := fun W hW => ⟨hW, convert_n c6 N HCl.out (HB7.out.later hW)⟩
            have HU : Hid (∀ W W' : World, (Below w7.heap.size w7 W ∧ (convert 39 9 (.slice A6 N c6)).run Try.prog W = .ok (.string ⟨c.toArray⟩) W) → Below W.heap.size W W' → (Below w7.heap.size w7 W' ∧ (convert 39 9 (.slice A6 N c6)).run Try.prog W' = .ok (.string ⟨c.toArray⟩) W')) := fun W W' h k => HT.out W' (below_then h.1 k)
            have HV : Hid (∀ W : World, (Below w7.heap.size w7 W ∧ (convert 39 9 (.slice A6 N c6)).run Try.prog W = .ok (.string ⟨c.toArray⟩) W) → (Below w7.heap.size w7 W.drew ∧ (convert 39 9 (.slice A6 N c6)).run Try.prog W.drew = .ok (.string ⟨c.toArray⟩) W.drew)) := fun W h => HT.out W.drew h.1.drew
            have HE : Hid (∀ W : World, (Below w7.heap.size w7 W ∧ (convert 39 9 (.slice A6 N c6)).run Try.prog W = .ok (.string ⟨c.toArray⟩) W) → Below w.heap.size w W) := fun W h => below_then S8.out.below h.1
            have p1 : (N : Int) ≤ (xa.size : Int) := by have := HNa.out; have := HLA.out; omega
            have p2 : (0 : Int) ≤ (N : Int) := by omega
            cases g
            · have hr : (c == (ByteArray.extract xa 0 N).toList) = true := by
                rw [beq_iff_eq, HCv.out, kC_eq, if_neg (by decide), ← HNv.out, ByteArray.toList_eq, ByteArray.data_extract, ← HXA.out]
                simp
              go_region_held3 (fun W => Below w7.heap.size w7 W ∧ (convert 39 9 (.slice A6 N c6)).run Try.prog W = .ok (.string ⟨c.toArray⟩) W) (first | exact HT.out _ (Below.refl _ _).drew | exact HU.out _ _ (by assumption) (by assumption) | exact HV.out _ (by assumption) | assumption) (first
                | (go_at_call 9; refine (told_any DD.out _).mono ?_; rintro e w' ⟨rfl, hb⟩))
              go_wp2_with fail
              go_ret
              exact ⟨rfl, HE.out _ (by assumption)⟩
            · refine wp_region_held_drew (S := fun W => Below w7.heap.size w7 W) (by kernel_rfl) (Below.refl _ _).drew (fun hHeld => ?_)
              refine wpAnyH_ready (rs := [0]) (by kernel_rfl) (by simp) ?_
              refine AllReadyH.cons (o := ⟨some 138, .call { callee := .value (.func 9), args := #[], argTypes := #[] }, 4, "law.go:138", #[], none⟩) rfl (fun K hK => ?_) AllReadyH.nil
              go_wp2_with (go_at_call 9; refine (told_any DD.out _).mono ?_; rintro e w' ⟨rfl, hb⟩)
              refine hK.out _ _ (below_then hHeld hb) (fun hHeld2 => ?_)
              clear hK K
              try simp only [Act.put, List.setIfInBounds_toArray, List.set_cons_zero, List.set_cons_succ]
              refine wpAnyH_take (i := 1) (oi := ⟨some 139, .move (.tmp 138), 4, "law.go:138", #[⟨0, .data⟩, ⟨0, .chain⟩], none⟩) (v := .bool true) rfl (by kernel_rfl) (by kernel_rfl) (by kernel_rfl) (fun _ _ _ h => h) (Or.inl ⟨by rfl, fun w _ => rfl⟩) hHeld2 ?_
              try simp only [Act.put, List.setIfInBounds_toArray, List.set_cons_zero, List.set_cons_succ]
              refine wpAnyH_take (i := 2) (oi := ⟨some 140, .move (.tmp 3), 4, "law.go:138", #[⟨1, .guard⟩], some (1, true)⟩) (v := .bool true) rfl (by kernel_rfl) (by kernel_rfl) (by kernel_rfl) (fun _ _ _ h => h) (Or.inl ⟨by rfl, fun w _ => rfl⟩) hHeld2 ?_
              try simp only [Act.put, List.setIfInBounds_toArray, List.set_cons_zero, List.set_cons_succ]
              refine wpAnyH_take (i := 3) (oi := ⟨some 141, .move (.tmp 140), 4, "law.go:138", #[⟨2, .data⟩, ⟨1, .chain⟩, ⟨1, .guard⟩], some (1, true)⟩) (v := .bool true) rfl (by kernel_rfl) (by kernel_rfl) (by kernel_rfl) (fun _ _ _ h => h) (Or.inl ⟨by rfl, fun w _ => rfl⟩) hHeld2 ?_
              try simp only [Act.put, List.setIfInBounds_toArray, List.set_cons_zero, List.set_cons_succ]
              refine wpAnyH_take (i := 4) (oi := ⟨some 142, .move (.tmp 16), 39, "law.go:138", #[⟨3, .guard⟩], some (3, false)⟩) (v := undef) rfl (by kernel_rfl) (by kernel_rfl) (by kernel_rfl) (fun _ _ _ h => h) (Or.inr ⟨by rfl, rfl⟩) hHeld2 ?_
              try simp only [Act.put, List.setIfInBounds_toArray, List.set_cons_zero, List.set_cons_succ]
              refine wpAnyH_take (i := 5) (oi := ⟨some 143, .convert 39 9 (.tmp 142), 9, "law.go:138", #[⟨4, .data⟩, ⟨3, .guard⟩], some (3, false)⟩) (v := undef) rfl (by kernel_rfl) (by kernel_rfl) (by kernel_rfl) (fun _ _ _ h => h) (Or.inr ⟨by rfl, rfl⟩) hHeld2 ?_
              try simp only [Act.put, List.setIfInBounds_toArray, List.set_cons_zero, List.set_cons_succ]
              refine wpAnyH_take (i := 6) (oi := ⟨some 144, .move (.tmp 11), 9, "law.go:138", #[⟨3, .guard⟩], some (3, false)⟩) (v := undef) rfl (by kernel_rfl) (by kernel_rfl) (by kernel_rfl) (fun _ _ _ h => h) (Or.inr ⟨by rfl, rfl⟩) hHeld2 ?_
              try simp only [Act.put, List.setIfInBounds_toArray, List.set_cons_zero, List.set_cons_succ]
              refine wpAnyH_take (i := 7) (oi := ⟨some 145, .move (.tmp 18), 3, "law.go:138", #[⟨3, .guard⟩], some (3, false)⟩) (v := undef) rfl (by kernel_rfl) (by kernel_rfl) (by kernel_rfl) (fun _ _ _ h => h) (Or.inr ⟨by rfl, rfl⟩) hHeld2 ?_
              try simp only [Act.put, List.setIfInBounds_toArray, List.set_cons_zero, List.set_cons_succ]
              refine wpAnyH_take (i := 8) (oi := ⟨some 146, .slice 9 (.tmp 144) none (some (.tmp 145)) none, 9, "law.go:138", #[⟨6, .data⟩, ⟨7, .data⟩, ⟨3, .guard⟩], some (3, false)⟩) (v := undef) rfl (by kernel_rfl) (by kernel_rfl) (by kernel_rfl) (fun _ _ _ h => h) (Or.inr ⟨by rfl, rfl⟩) hHeld2 ?_
              try simp only [Act.put, List.setIfInBounds_toArray, List.set_cons_zero, List.set_cons_succ]
              refine wpAnyH_take (i := 9) (oi := ⟨some 147, .binOp .eql 9 (.tmp 143) (.tmp 146) 9, 4, "law.go:138", #[⟨5, .data⟩, ⟨8, .data⟩, ⟨3, .guard⟩], some (3, false)⟩) (v := undef) rfl (by kernel_rfl) (by kernel_rfl) (by kernel_rfl) (fun _ _ _ h => h) (Or.inr ⟨by rfl, rfl⟩) hHeld2 ?_
              try simp only [Act.put, List.setIfInBounds_toArray, List.set_cons_zero, List.set_cons_succ]
              refine wpAnyH_take (i := 10) (oi := ⟨some 148, .pick (.tmp 141) (.const (.bool true)) (.tmp 147), 4, "law.go:138", #[⟨3, .data⟩, ⟨9, .data⟩, ⟨1, .guard⟩], some (1, true)⟩) (v := .bool true) rfl (by kernel_rfl) (by kernel_rfl) (by kernel_rfl) (fun _ _ _ h => h) (Or.inl ⟨by rfl, fun w _ => rfl⟩) hHeld2 ?_
              try simp only [Act.put, List.setIfInBounds_toArray, List.set_cons_zero, List.set_cons_succ]
              refine wpAnyH_take (i := 11) (oi := ⟨some 149, .pick (.tmp 139) (.tmp 148) (.const (.bool false)), 4, "law.go:138", #[⟨1, .data⟩, ⟨10, .data⟩], none⟩) (v := .bool true) rfl (by kernel_rfl) (by kernel_rfl) (by kernel_rfl) (fun _ _ _ h => h) (Or.inl ⟨by rfl, fun w _ => rfl⟩) hHeld2 ?_
              try simp only [Act.put, List.setIfInBounds_toArray, List.set_cons_zero, List.set_cons_succ]
              refine wpAnyH_take (i := 12) (oi := ⟨some 8, .assign (.tmp 149), 4, "law.go:138", #[⟨11, .data⟩, ⟨3, .chain⟩, ⟨0, .phase⟩, ⟨1, .phase⟩, ⟨2, .phase⟩, ⟨3, .phase⟩, ⟨4, .phase⟩, ⟨5, .phase⟩, ⟨6, .phase⟩, ⟨7, .phase⟩, ⟨8, .phase⟩, ⟨9, .phase⟩, ⟨10, .phase⟩, ⟨11, .phase⟩], none⟩) (v := .bool true) rfl (by kernel_rfl) (by kernel_rfl) (by kernel_rfl) (fun _ _ _ h => h) (Or.inl ⟨by rfl, fun w _ => rfl⟩) hHeld2 ?_
              try simp only [Act.put, List.setIfInBounds_toArray, List.set_cons_zero, List.set_cons_succ]
              refine wpAnyH_done (by kernel_rfl) ?_ _
              go_wp2_with fail
              go_ret
              exact ⟨rfl, below_then S8.out.below hHeld2⟩
end Go.Proofs.Ytlbokfkindiojaa
