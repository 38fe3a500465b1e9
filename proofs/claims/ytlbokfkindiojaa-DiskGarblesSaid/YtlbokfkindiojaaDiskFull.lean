/- full -/
import Derived.Test.YtlbokfkindiojaaDiskTold
namespace Go.Proofs.Ytlbokfkindiojaa
open Go.RowKit
set_option linter.unusedVariables false

theorem mod101 (t : Int) : ∃ n : Nat, n ≤ 100 ∧ wrap64 ((IntKind.u64.wrap t).tmod 101) = (n : Int) := by
  have h : 0 ≤ IntKind.u64.wrap t := by rw [IntKind.wrap_u64]; omega
  rw [Int.tmod_eq_emod_of_nonneg h]
  exact ⟨(IntKind.u64.wrap t % 101).toNat, by omega, by unfold wrap64; omega⟩
theorem full_no {d : DiskM.D} {s b : List UInt8} (h0 : d.down = false) (h1 : DiskM.named s = true) (h2 : (d.max : Int) - DiskM.used d.l < b.length) : DiskM.append d s b = (9, d) := by
  unfold DiskM.append
  rw [h0, if_neg (by decide), h1, if_neg (by decide), if_pos h2]
theorem full_new {d : DiskM.D} {s b : List UInt8} (h0 : d.down = false) (h1 : DiskM.named s = true) (h2 : (b.length : Int) ≤ (d.max : Int) - DiskM.used d.l) (h3 : DiskM.find d.l s = none) : DiskM.append d s b = (0, { d with l := DiskM.put d.l ⟨s, b, 0⟩ }) := by
  unfold DiskM.append
  rw [h0, if_neg (by decide), h1, if_neg (by decide), if_neg (by omega), h3]
theorem full_key (n : Nat) (a b : List UInt8) : ∃ (r1 r2 : Int) (M1 M2 : DiskM.D) (U N : Nat), DiskM.append (DiskM.fresh n) [97] a = (r1, M1) ∧ DiskM.append M1 [98] b = (r2, M2) ∧ DiskM.used M2.l = U ∧ M2.l.length = N ∧ M2.down = false ∧
    ((r1 = 0 ∧ r2 = 0 ∧ (a.length : Int) ≤ n ∧ (b.length : Int) ≤ (n : Int) - a.length ∧ U = a.length + b.length ∧ N = 2) ∨
     (r1 = 0 ∧ r2 = 9 ∧ (a.length : Int) ≤ n ∧ (n : Int) - a.length < b.length ∧ U = a.length ∧ N = 1) ∨
     (r1 = 9 ∧ r2 = 0 ∧ (n : Int) < a.length ∧ (b.length : Int) ≤ n ∧ U = b.length ∧ N = 1) ∨
     (r1 = 9 ∧ r2 = 9 ∧ (n : Int) < a.length ∧ (n : Int) < b.length ∧ U = 0 ∧ N = 0)) := by
  have u0 : DiskM.used (DiskM.fresh n).l = 0 := rfl
  by_cases fa : a.length ≤ n
  · have e1 := full_new (d := DiskM.fresh n) (s := [97]) (b := a) rfl (by decide) (by rw [u0]; show (a.length : Int) ≤ (n : Int) - 0; omega) rfl
    have l1 : DiskM.put (DiskM.fresh n).l ⟨[97], a, 0⟩ = [⟨[97], a, 0⟩] := rfl
    rw [l1] at e1
    have u1 : DiskM.used [(⟨[97], a, 0⟩ : DiskM.F)] = a.length := by simp [DiskM.used]
    by_cases fb : b.length ≤ n - a.length
    · have e2 := full_new (d := ⟨[⟨[97], a, 0⟩], n, false⟩) (s := [98]) (b := b) rfl (by decide) (by show (b.length : Int) ≤ (n : Int) - DiskM.used [(⟨[97], a, 0⟩ : DiskM.F)]; rw [u1]; omega) rfl
      exact ⟨0, 0, _, _, _, _, e1, e2, rfl, rfl, rfl, Or.inl ⟨rfl, rfl, by omega, by omega, by simp [DiskM.put, DiskM.lt, DiskM.used], rfl⟩⟩
    · have e2 := full_no (d := ⟨[⟨[97], a, 0⟩], n, false⟩) (s := [98]) (b := b) rfl (by decide) (by show (n : Int) - DiskM.used [(⟨[97], a, 0⟩ : DiskM.F)] < b.length; rw [u1]; omega)
      exact ⟨0, 9, _, _, _, _, e1, e2, rfl, rfl, rfl, Or.inr (Or.inl ⟨rfl, rfl, by omega, by omega, u1, rfl⟩)⟩
  · have e1 := full_no (d := DiskM.fresh n) (s := [97]) (b := a) rfl (by decide) (by rw [u0]; show (n : Int) - 0 < a.length; omega)
    by_cases fb : b.length ≤ n
    · have e2 := full_new (d := DiskM.fresh n) (s := [98]) (b := b) rfl (by decide) (by rw [u0]; show (b.length : Int) ≤ (n : Int) - 0; omega) rfl
      exact ⟨9, 0, _, _, _, _, e1, e2, rfl, rfl, rfl, Or.inr (Or.inr (Or.inl ⟨rfl, rfl, by omega, by omega, by simp [DiskM.put, DiskM.used, DiskM.fresh], rfl⟩))⟩
    · have e2 := full_no (d := DiskM.fresh n) (s := [98]) (b := b) rfl (by decide) (by rw [u0]; show (n : Int) - 0 < b.length; omega)
      exact ⟨9, 9, _, _, _, _, e1, e2, rfl, rfl, rfl, Or.inr (Or.inr (Or.inr ⟨rfl, rfl, by omega, by omega, rfl, rfl⟩))⟩
theorem St.used {R : World → (Nat → Prop) → Addr → DiskM.D → Prop} (D : DiskOk R) {w0 w : World} {p : Addr} {M : DiskM.D} (h : St R w0 w p M) (U : Nat) (hU : DiskM.used M.l = U) :
    Calls Try.prog 19 #[.pointer (some p)] w fun e w' => e = .returned (.int .i64 (U : Int)) ∧ St R w0 w' p M := by
  subst hU
  obtain ⟨F, hr, hf⟩ := h.1
  exact (D.used hr).mono fun e w' ⟨he, hb⟩ => ⟨he, h.keep D hb⟩
theorem St.names {R : World → (Nat → Prop) → Addr → DiskM.D → Prop} (D : DiskOk R) {w0 w : World} {p : Addr} {M : DiskM.D} (h : St R w0 w p M) (l : List (List UInt8)) (n : Nat) (hl : DiskM.names M = l) (hn : l.length = n) :
    Calls Try.prog 20 #[.pointer (some p)] w fun e w' => ∃ A c, e = .returned (.slice A n c) ∧ St R w0 w' p M ∧ Below w.heap.size w w' ∧ ∀ i (h : i < l.length), ∃ q : Addr, A = some q ∧ q.block < w'.heap.size ∧ w'.cell? (q.add i) = some (.string ⟨l[i].toArray⟩) := by
  subst hl hn
  obtain ⟨F, hr, hf⟩ := h.1
  refine (D.names hr).mono ?_
  rintro e w' ⟨⟨v, he, A, c, hv, _, _, hc⟩, hb⟩
  exact ⟨A, c, by rw [he, hv], h.keep D hb, hb, hc⟩
theorem roomless (M : DiskM.D) (hd : M.down = false) : DiskM.append (DiskM.room M 0) [99] [120] = (9, DiskM.room M 0) := by
  refine full_no hd (by decide) ?_
  show ((DiskM.room M 0).max : Int) - DiskM.used (DiskM.room M 0).l < _
  have : (DiskM.room M 0).max = 0 := rfl
  rw [this]
  simp
  omega
set_option maxRecDepth 20000 in
set_option maxHeartbeats 4000000 in
theorem full_walk {R : World → (Nat → Prop) → Addr → DiskM.D → Prop} (D : DiskOk R) (t : Int) (n : Nat) (A B : Option Addr) (a b : List UInt8) (ca cb : Nat) (hA : A = none → ca = 0) (hB : B = none → cb = 0) (w : World) (ha : Bs w w.heap.size A a) (hb : Bs w w.heap.size B b) (la : a.length ≤ 100) (lb : b.length ≤ 100)
    (hn : n ≤ 100) (ht : wrap64 ((IntKind.u64.wrap t).tmod 101) = (n : Int)) :
    Calls Try.prog 6 #[.int .i64 t, .slice A a.length ca, .slice B b.length cb] w fun e w' => e = .returned (.bool true) ∧ Below w.heap.size w w' := by
  have kc := fun (w : World) (C : Array Value) (n c : Nat) => Lib.run_convert_bytes_const (P := Try.prog) w 39 5 C n c Try.underlying39 Try.underlying5
  have DD := Lib.hid D
  have HA := Lib.hid hA
  have HB := Lib.hid hB
  have KA := Lib.hid ha
  have KB := Lib.hid hb
  clear D hA hB ha hb
  have la4 : Hid (a.length ≤ 4096 ∧ b.length ≤ 4096) := by show a.length ≤ 4096 ∧ b.length ≤ 4096; omega
  obtain ⟨r1, r2, M1, M2, U, N, e1, e2, eU, eN, ed, key⟩ := full_key n a b
  have E1 := Lib.hid e1
  have E2 := Lib.hid e2
  have EU := Lib.hid eU
  have EN := Lib.hid eN
  have ED := Lib.hid ed
  clear e1 e2 eU eN ed
  rcases key with ⟨rfl, rfl, c1, c2, hU, hN⟩ | ⟨rfl, rfl, c1, c2, hU, hN⟩ | ⟨rfl, rfl, c1, c2, hU, hN⟩ | ⟨rfl, rfl, c1, c2, hU, hN⟩
  all_goals
    (have HU := Lib.hid hU)
    (have HN := Lib.hid hN)
    (clear hU hN)
    (go_enter Try.func6, Try.ntmps6)
    (go_wp2_with fail)
    (go_at_call 8)
    (refine (st_new DD.out n (by omega) w w (Below.refl _ _)).mono ?_)
    (rintro e w1 ⟨p, rfl, h1⟩)
    (have S1 := Lib.hid h1)
    (clear h1)
    (go_wp2_with fail)
    (go_at_call 12)
    (refine (S1.out.num (x := DiskM.append (DiskM.fresh n) [97] a) (by rw [E1.out]) (by rw [E1.out]) fun F hr => DD.out.append hr ⟨#[97]⟩ A a ca la4.out.1 HA.out (KA.out.later S1.out.below) (Nat.lt_of_le_of_lt (Nat.zero_le 0) (by decide : 0 < 1000))).mono ?_)
    (rintro e w2 ⟨rfl, h2⟩)
    (have S2 := Lib.hid h2)
    (clear S1 h2)
    (go_wp2_with fail)
    (go_at_call 12)
    (refine (S2.out.num (x := DiskM.append M1 [98] b) (by rw [E2.out]) (by rw [E2.out]) fun F hr => DD.out.append hr ⟨#[98]⟩ B b cb la4.out.2 HB.out (KB.out.later S2.out.below) (by have := DiskM.append_len (DiskM.fresh n) [97] a; rw [E1.out] at this; exact Nat.lt_of_le_of_lt this (by decide : 0 + 1 < 1000))).mono ?_)
    (rintro e w3 ⟨rfl, h3⟩)
    (have S3 := Lib.hid h3)
    (clear S2 h3)
    (go_wp2_with fail)
    (go_at_call 18)
    (refine (S3.out.step (M' := DiskM.room M2 0) fun F hr => DD.out.room hr 0 (by decide)).mono ?_)
    (rintro e w4 ⟨rfl, h4⟩)
    (have S4 := Lib.hid h4)
    (clear S3 h4)
    (go_wp2_with fail)
    (go_at_call 9)
    (refine (told_any DD.out w4).mono ?_)
    (rintro e w5 ⟨rfl, h5⟩)
    (have S5 := Lib.hid (S4.out.keep DD.out h5))
    (clear S4 h5)
    (go_wp2_with fail)
    (go_at_call 19)
    (refine (S5.out.used DD.out U EU.out).mono ?_)
    (rintro e w6 ⟨rfl, h6⟩)
    (rw [HU.out])
    (have S6 := Lib.hid h6)
    (clear S5 h6)
    (go_wp2_with fail)
    (go_at_call 20)
    (refine (S6.out.names DD.out _ N rfl (by show (M2.l.map DiskM.F.name).length = N; rw [List.length_map]; exact EN.out)).mono ?_)
    (rintro e w7 ⟨A7, c7, rfl, h7, -, -⟩)
    (rw [HN.out])
    (have S7 := Lib.hid h7)
    (clear S6 h7)
    (go_wp2_with fail)
    (go_at_call 12)
    (refine (st_bytes_to DD.out S7.out ⟨#[99]⟩ _ _ [120] 1 1 rfl rfl (by decide) (by show M2.l.length < 1000; rw [EN.out, HN.out]; decide) (r := 9) (M' := DiskM.room M2 0) (congrArg Prod.fst (roomless M2 ED.out)) (congrArg Prod.snd (roomless M2 ED.out))).mono ?_)
    (rintro e w8 ⟨rfl, h8⟩)
    (have S8 := Lib.hid h8)
    (clear S7 h8)
    (go_wp2_with fail)
    (go_at_call 19)
    (refine (S8.out.used DD.out U EU.out).mono ?_)
    (rintro e w9 ⟨rfl, h9⟩)
    (rw [HU.out])
    (have S9 := Lib.hid h9)
    (clear S8 h9)
    (go_wp2_with fail)
    (go_ret)
    (exact ⟨rfl, S9.out.below⟩)
theorem full_long {R : World → (Nat → Prop) → Addr → DiskM.D → Prop} (D : DiskOk R) (t : Int) (A B : Option Addr) (na nb ca cb : Nat) (w : World) (h : 100 < na ∨ 100 < nb) (ha : na ≤ maxLen) (hb : nb ≤ maxLen) :
    Calls Try.prog 6 #[.int .i64 t, .slice A na ca, .slice B nb cb] w fun e w' => e = .returned (.bool true) ∧ Below w.heap.size w w' := by
  have DD := Lib.hid D
  unfold maxLen at *
  clear D
  by_cases l1 : 100 < na
  · have l1 : (100 : Int) < (na : Int) := by omega
    go_enter Try.func6, Try.ntmps6
    go_wp2_with fail
    go_at_call 9
    refine (told_any DD.out w).mono ?_
    rintro e w1 ⟨rfl, h1⟩
    go_wp2_with fail
    go_ret
    exact ⟨rfl, h1⟩
  · have l2 : (100 : Int) < (nb : Int) := by omega
    have l1 : (na : Int) ≤ 100 := by omega
    go_enter Try.func6, Try.ntmps6
    go_wp2_with fail
    go_at_call 9
    refine (told_any DD.out w).mono ?_
    rintro e w1 ⟨rfl, h1⟩
    go_wp2_with fail
    go_ret
    exact ⟨rfl, h1⟩
theorem full_law {R : World → (Nat → Prop) → Addr → DiskM.D → Prop} (D : DiskOk R) (t : Int) (A B : Option Addr) (a b : List UInt8) (ca cb : Nat) (hA : A = none → ca = 0) (hB : B = none → cb = 0) (w : World) (ha : Bs w w.heap.size A a) (hb : Bs w w.heap.size B b) (la : a.length ≤ maxLen) (lb : b.length ≤ maxLen) :
    Calls Try.prog 6 #[.int .i64 t, .slice A a.length ca, .slice B b.length cb] w fun e w' => e = .returned (.bool true) ∧ Below w.heap.size w w' := by
  by_cases h : a.length ≤ 100 ∧ b.length ≤ 100
  · obtain ⟨n, hn, ht⟩ := mod101 t
    exact full_walk D t n A B a b ca cb hA hB w ha hb h.1 h.2 hn ht
  · exact full_long D t A B a.length b.length ca cb w (by omega) la lb
end Go.Proofs.Ytlbokfkindiojaa
