/- The laws' own check of package scope: told. -/
import Derived.Test.YteakhlnnepjhpaaScTx
import Derived.Test.YteakhlnnepjhpaaScUx
namespace Go.Proofs.Yteakhlnnepjhpaa
open Go.RowKit PrM
set_option linter.unusedVariables false
set_option linter.unusedSimpArgs false
def aB : ByteArray := ⟨#[97]⟩
def xB : ByteArray := ⟨#[120]⟩
def bodyC : X := X.one (.s 10 34 [] (X.one (.e 14 47 0 ⟨#[]⟩ 1 (X.two (.e 14 43 0 ⟨#[]⟩ 1 (X.two (.e 6 41 0 aB 0 .nil .nil) (.e 6 45 0 xB 0 .nil .nil)) .nil) (.e 6 49 0 ⟨#[116, 121, 112, 101]⟩ 0 .nil .nil)) .nil)) .nil)
def treeC : X := X.two (.s 1 0 [xB] (X.one (.e 6 10 0 ScM.keysB 0 .nil .nil)) .nil) (.s 10 15 [] (X.one (.e 7 22 0 ⟨#[]⟩ 0 .nil (X.one (.f [aB] bodyC)))) .nil)
theorem ansC : (ansS sC).1 = treeC := by kernel_rfl
theorem outC : ScM.outr [aB] bodyC = [xB] := by kernel_rfl
theorem builtC : ScM.builtin ⟨#[99, 97, 108, 108]⟩ = true ∧ ScM.builtin ⟨#[75, 69, 89, 83]⟩ = false := by decide +kernel
theorem fitC : bodyC.fit 100000 := fitB_fit _ (by decide +kernel)
theorem szC : [aB].length + ScM.sz bodyC ≤ 900000000000 := by decide +kernel
/-- Where the function stands. -/
theorem navC {w : World} {P : Nat → Prop} {A : Option Addr} {n c : Nat} (h : Sl treeC.len (Rd w P treeC).row 5 (.slice A n c)) : ∃ (p q r : Addr) (n3 d n6 e : Nat) (A0 A1 : Option Addr) (c0 c1 : Nat), A = some p ∧ (1 < (n : Int) ∧ (n : Int) ≤ (c : Int)) ∧ w.cell? ⟨p.block, p.off + 5 + 3, none⟩ = some (.slice (some q) n3 d) ∧ (0 < (n3 : Int) ∧ (n3 : Int) ≤ (d : Int)) ∧ w.cell? ⟨q.block, q.off + 6, none⟩ = some (.slice (some r) n6 e) ∧ (0 < (n6 : Int) ∧ (n6 : Int) ≤ (e : Int)) ∧
  w.cell? r = some (.slice A0 1 c0) ∧ w.cell? ⟨r.block, r.off + 1, none⟩ = some (.slice A1 1 c1) ∧ Strs w P (.slice A0 1 c0) [aB] ∧ Sl bodyC.len (Rd w P bodyC).row 5 (.slice A1 1 c1) := by
 have ln := (Sl.len h).1
 have lc := (Sl.len h).2.1
 have ln : n = 2 := ln
 obtain ⟨p, y, v0, v1, v2, v3, v4, rfl, hy, hc, hd⟩ := Sl.at5 (i := 1) h (by decide)
 obtain rfl : _ = y := Option.some.inj hy
 obtain ⟨w2, w3, w4, he, -, sl, -⟩ := hd
 simp only [Array.mk.injEq, List.cons.injEq, and_true] at he
 obtain ⟨rfl, rfl, rfl, rfl, rfl⟩ := he
 obtain ⟨A3, d, rfl⟩ : ∃ A c, v3 = .slice A 1 c := by obtain ⟨A, c, e, -⟩ := sl; exact ⟨A, c, e⟩
 have l3 := (Sl.len sl).2.1
 obtain ⟨q, y2, u0, u1, u2, u3, u4, u5, u6, rfl, hy2, hc2, hd2⟩ := Sl.at7 (i := 0) sl (by decide)
 obtain rfl : _ = y2 := Option.some.inj hy2
 obtain ⟨w5, w6, he2, -, sf⟩ := hd2
 simp only [Array.mk.injEq, List.cons.injEq, and_true] at he2
 obtain ⟨rfl, rfl, rfl, rfl, rfl, rfl, rfl⟩ := he2
 obtain ⟨A6, e, rfl⟩ : ∃ A c, u6 = .slice A 1 c := by obtain ⟨A, c, e, -⟩ := sf; exact ⟨A, c, e⟩
 have l6 := (Sl.len sf).2.1
 obtain ⟨r, y3, z0, z1, rfl, hy3, hc3, hd3⟩ := Sl.at2 (i := 0) sf (by decide)
 obtain rfl : _ = y3 := Option.some.inj hy3
 obtain ⟨x0, x1, he3, st, sb⟩ := hd3
 simp only [Array.mk.injEq, List.cons.injEq, and_true] at he3
 obtain ⟨rfl, rfl⟩ := he3
 obtain ⟨A0, c0, rfl⟩ : ∃ A c, z0 = .slice A 1 c := by obtain ⟨A, c, e, -⟩ := st; exact ⟨A, c, e⟩
 obtain ⟨A1, c1, rfl⟩ : ∃ A c, z1 = .slice A 1 c := by obtain ⟨A, c, e, -⟩ := sb; exact ⟨A, c, e⟩
 have e7 : q.add (0 * 7) = q := by simp [Addr.add]
 have e2 : r.add (0 * 2) = r := by simp [Addr.add]
 rw [e7] at hc2
 rw [e2] at hc3
 exact ⟨p, q, r, 1, d, 1, e, A0, A1, c0, c1, rfl, by omega, by have k := hc.2.2.2.1; simpa [Addr.add] using k, by omega, hc2.2.2.2.2.2.2, by omega, hc3.1, hc3.2, st, sb⟩
set_option maxRecDepth 20000 in
set_option maxHeartbeats 4000000 in
theorem told_s (w : World) : Calls Try.prog 5 #[] w fun en w' => en = .returned (.bool true) ∧ Below w.heap.size w w' := by
 obtain ⟨MA, hMA⟩ : ∃ M, (ansS sA).1 = M := ⟨_, rfl⟩
 obtain ⟨kA, kA2⟩ := known_at sA okA 14 7 chA MA hMA
 have HA := Lib.hid kA
 have CA := Lib.hid kA2
 clear hMA kA kA2
 have NC := Lib.hid (fun (W : World) (P : Nat → Prop) (A : Option Addr) (n c : Nat) h => navC (w := W) (P := P) (A := A) (n := n) (c := c) h)
 obtain ⟨n2, LC⟩ : ∃ n, treeC.len = n := ⟨_, rfl⟩
 have aC := ansC
 obtain ⟨MC, hMC⟩ : ∃ M, treeC = M := ⟨_, rfl⟩
 rw [hMC] at NC LC aC
 clear hMC
 obtain ⟨kC, kC2⟩ := known_at sC okC 0 0 chC MC aC
 rw [LC] at kC kC2 NC
 have HC := Lib.hid kC
 have CC := Lib.hid kC2
 clear kC kC2 LC aC
 have HB := Lib.hid (fun W => script_no W noB)
 obtain ⟨cB, hcB⟩ : ∃ c, (ansS sB).2.1 = c := ⟨_, rfl⟩
 obtain ⟨pB, hpB⟩ : ∃ c, (ansS sB).2.2 = c := ⟨_, rfl⟩
 rw [hcB, hpB] at HB
 clear hcB hpB
 have B1 := Lib.hid (fun W => builtin_any ⟨#[99, 97, 108, 108]⟩ W)
 rw [builtC.1] at B1
 have B2 := Lib.hid (fun W => builtin_any ⟨#[75, 69, 89, 83]⟩ W)
 rw [builtC.2] at B2
 go_enter Try.func5, Try.ntmps5
 go_wp2_with (first
  |(go_at_call 6; (with_reducible refine (HA.out _).mono ?_); rintro e w1 ⟨⟨A1, c1, rfl, s1⟩, b1⟩; have S1 := Lib.hid s1; have Y1 := Lib.hid b1; clear s1 b1)
  |(go_at_call 7; (with_reducible refine (CA.out _ _ _ S1.out).mono ?_); rintro e w2 ⟨rfl, b2⟩; have Y2 := Lib.hid (Y1.out.trans (b2.mono Y1.out.size)); clear b2)
  |(go_at_call 6; (with_reducible refine (HB.out _).mono ?_); rintro e w3 ⟨rfl, b3⟩; have Y3 := Lib.hid (Y2.out.trans (b3.mono Y2.out.size)); clear b3)
  |(go_at_call 6; (with_reducible refine (HC.out _).mono ?_); rintro e w4 ⟨⟨A4, c4, rfl, s4⟩, b4⟩; have S4 := Lib.hid s4; have Y4 := Lib.hid (Y3.out.trans (b4.mono Y3.out.size)); clear s4 b4)
  |(go_at_call 7; (with_reducible refine (CC.out _ _ _ S4.out).mono ?_); rintro e w5 ⟨rfl, b5⟩; have Y5 := Lib.hid (Y4.out.trans (b5.mono Y4.out.size)); have s5 := S4.out.imp (Rd.move (Moves.of_below b5 (fun _ hk _ => hk)) MC).2.1; obtain ⟨p, q, r, n3, d, n6, e', A0, A1', c0, c1', rfl, ⟨x0, x1⟩, x2, ⟨x3, x4⟩, x5, ⟨x6, x7⟩, x8, x9, st, sb⟩ := NC.out _ _ _ _ _ s5; have OU := Lib.hid (outer_any st sb fitC (fun p hp => by simp at hp; rw [hp]; decide) szC); rw [outC] at OU; clear b5 s5 st sb)
  |(go_at_call 13; refine OU.out.mono ?_; rintro e w6 ⟨⟨u, rfl, s6⟩, b6⟩; have Y6 := Lib.hid (Y5.out.trans (b6.mono Y5.out.size)); obtain ⟨A6, c6, rfl⟩ := strs_slice s6; have TX := Lib.hid (rtexts (w6.alloc (.cells #[.string xB] 9)) _ _ _ _ _ _ (s6.bel ((Below.refl _ w6).alloc (Nat.le_refl _) _)) (strsOne (W := w6) (w := w6) (Nat.le_refl _) xB) (by decide)); rw [decide_eq_true (rfl : [xB] = [xB])] at TX; have Y7 := Lib.hid (Y6.out.alloc Y6.out.size (.cells #[.string xB] 9)); clear s6 b6)
  |(go_at_call 12; refine TX.out.mono ?_; rintro e w8 ⟨rfl, b8⟩; have Y8 := Lib.hid (Y7.out.trans (b8.mono Y7.out.size)); clear b8)
  |(go_at_call 9; (with_reducible refine (B1.out _).mono ?_); rintro e w9 ⟨rfl, rfl⟩)
  |(go_at_call 9; (with_reducible refine (B2.out _).mono ?_); rintro e w9 ⟨rfl, rfl⟩))
 go_ret
 exact ⟨rfl, Y8.out⟩
end Go.Proofs.Yteakhlnnepjhpaa
