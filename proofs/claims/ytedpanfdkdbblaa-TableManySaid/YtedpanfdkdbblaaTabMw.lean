/- The walk of the law TableMany, out of what is asked of package table. -/
import Derived.Test.YtedpanfdkdbblaaTabMany
namespace Go.Proofs.Ytedpanfdkdbblaa
open Go.RowKit
set_option linter.unusedVariables false
/-- What is left of the names behind so many steps. -/
def rem2 (d k : Nat) : Nat → List (List UInt8 × Int)
  | 0 => row2 k
  | i + 1 => (rem2 d k i).filter fun a => a.1 != nm2 (i * d % k)
theorem rem_apart (d k : Nat) (hk : k ≤ 600) : ∀ i, Apart2 (rem2 d k i)
  | 0 => apart_row2 k hk
  | i + 1 => apart_del _ _ (rem_apart d k hk i)
theorem rem_in (d k x : Nat) (hk : k ≤ 600) (k0 : 0 < k) (hx : x < k) : ∀ i, (∀ j, j < i → j * d % k ≠ x) → TabM.get (rem2 d k i) (nm2 x) = some (x : Int)
  | 0, _ => by
    show TabM.get (row2 k) (nm2 x) = _
    rw [get_row2 k x hk (by omega), if_pos hx]
  | i + 1, h => by
    show TabM.get ((rem2 d k i).filter fun a => a.1 != nm2 (i * d % k)) (nm2 x) = _
    have l := Nat.mod_lt (i * d) k0
    rw [get_del, if_neg (fun e => h i (by omega) (nm2_inj (by omega) (by omega) e.symm))]
    exact rem_in d k x hk k0 hx i fun j hj => h j (by omega)
theorem rem_step (d k i : Nat) (hk : k ≤ 600) (k0 : 0 < k) (hc : Nat.gcd d k = 1) (hi : i < k) : TabM.get (rem2 d k i) (nm2 (i * d % k)) = some ((i * d % k : Nat) : Int) :=
  rem_in d k _ hk k0 (Nat.mod_lt _ k0) i fun j hj e => by
    have := steps_apart hc (by omega) hi e
    omega
theorem rem_gone (d k i : Nat) : TabM.get (rem2 d k (i + 1)) (nm2 (i * d % k)) = none := by
  show TabM.get ((rem2 d k i).filter fun a => a.1 != nm2 (i * d % k)) (nm2 (i * d % k)) = none
  rw [get_del, if_pos rfl]
theorem rem_len (d k : Nat) (hk : k ≤ 600) (k0 : 0 < k) (hc : Nat.gcd d k = 1) : ∀ i, i ≤ k → (rem2 d k i).length + i = k
  | 0, _ => by show (row2 k).length + 0 = k; rw [row2_length]; rfl
  | i + 1, h => by
    have a := rem_len d k hk k0 hc i (by omega)
    have b := del_length (rem2 d k i) (nm2 (i * d % k)) _ (rem_apart d k hk i) (rem_step d k i hk k0 hc (by omega))
    show ((rem2 d k i).filter fun a => a.1 != nm2 (i * d % k)).length + (i + 1) = k
    omega
theorem next_at (i d k : Nat) : (i * d % k + d) % k = (i + 1) * d % k := by
  rw [Nat.mod_add_mod, Nat.succ_mul]
theorem name2_any (i : Nat) (hi : i ≤ 676) (w : World) :
    Calls Try.prog 16 #[.int .i64 (i : Int)] w fun e w' => e = .returned (.string ⟨(nm2 i).toArray⟩) ∧ Below w.heap.size w w' := by
  have i0 : (0 : Int) ≤ (i : Int) := by omega
  have i1 : (i : Int) ≤ 676 := by omega
  have r1 : (i : Int).tmod 26 = (i : Int) % 26 := rfl
  obtain ⟨a, ha⟩ : ∃ a : Nat, i % 26 = a := ⟨_, rfl⟩
  obtain ⟨b, hb⟩ : ∃ b : Nat, i / 26 % 26 = b := ⟨_, rfl⟩
  obtain ⟨c, hc⟩ : ∃ c : Nat, i / 26 = c := ⟨_, rfl⟩
  have ea : (i : Int).tmod 26 = (a : Int) := by rw [← ha]; rfl
  have ec : (i : Int).tdiv 26 = (c : Int) := by rw [← hc]; rfl
  have ec' : (i : Int) / 26 = (c : Int) := by rw [← hc]; rfl
  have eb : (c : Int).tmod 26 = (b : Int) := by rw [← hb, ← hc]; rfl
  have a0 : (0 : Int) ≤ (a : Int) := by omega
  have a1 : (a : Int) < 26 := by omega
  have b0 : (0 : Int) ≤ (b : Int) := by omega
  have b1 : (b : Int) < 26 := by omega
  have c0 : (0 : Int) ≤ (c : Int) := by omega
  have c1 : (c : Int) ≤ 26 := by omega
  have cells : #[Value.int .u8 (97 + (a : Int)), .int .u8 (97 + (b : Int))] = ((nm2 i).map bv).toArray := by
    have x1 : ((UInt8.ofNat (97 + i % 26)).toNat : Int) = 97 + (a : Int) := by rw [UInt8.toNat_ofNat']; omega
    have x2 : ((UInt8.ofNat (97 + i / 26 % 26)).toNat : Int) = 97 + (b : Int) := by rw [UInt8.toNat_ofNat']; omega
    simp only [nm2, List.map_cons, List.map_nil, bv, x1, x2]
  have cv : (convert 39 9 (.slice (some ⟨w.heap.size, 0, none⟩) 2 2)).run Try.prog (w.alloc (.cells #[Value.int .u8 (97 + (a : Int)), .int .u8 (97 + (b : Int))] 5)) = .ok (.string ⟨(nm2 i).toArray⟩) (w.alloc (.cells #[Value.int .u8 (97 + (a : Int)), .int .u8 (97 + (b : Int))] 5)) :=
    convert_n 2 2 rfl (Bs.new w _ 5 (0, 0) (nm2 i) cells)
  have HCV := Lib.hid cv
  clear cells cv ha hb hc r1
  go_enter Try.func16, Try.ntmps16
  go_wp2_with fail
  rw [HCV.out]
  go_wp2_with fail
  go_ret
  exact ⟨rfl, (Below.refl _ w).alloc (Nat.le_refl _) _⟩
theorem gcd_any (a b : Nat) (ha : a ≤ 1048576) (hb : b ≤ 1048576) (w : World) :
    Calls Try.prog 18 #[.int .i64 (a : Int), .int .i64 (b : Int)] w fun e w' => e = .returned (.int .i64 ((Nat.gcd a b : Nat) : Int)) ∧ Below w.heap.size w w' := by
  go_enter Try.func18, Try.ntmps18
  go_wp2_with fail
  go_loopw [0, 1] (fun u v wr => ∃ x y : Nat, u = .int .i64 x ∧ v = .int .i64 y ∧ x ≤ 1048576 ∧ y ≤ 1048576 ∧ Nat.gcd x y = Nat.gcd a b ∧ Below w.heap.size w wr) (fun _ v _ => (intOf v).toNat)
  case atStart => exact ⟨a, b, rfl, rfl, ha, hb, rfl, Below.refl _ _⟩
  case round =>
    obtain ⟨x, y, rfl, rfl, hx, hy, hg, hbw⟩ := hrel
    have HG := Lib.hid (And.intro hx (And.intro hy (And.intro hg hbw)))
    have x0 : (0 : Int) ≤ (x : Int) := by omega
    have y0 : (0 : Int) ≤ (y : Int) := by omega
    have x9 : (x : Int) ≤ 1048576 := by omega
    have y9 : (y : Int) ≤ 1048576 := by omega
    clear hg hbw hx hy ha hb
    by_cases h : y = 0
    · subst h
      go_wp2_with fail
      go_ret
      have hg := HG.out.2.2.1
      rw [Nat.gcd_zero_right] at hg
      exact ⟨by rw [← hg]; rfl, HG.out.2.2.2⟩
    · have y1 : ¬ (y : Int) = 0 := by omega
      have y2 : (0 : Int) < (y : Int) := by omega
      obtain ⟨z, hz⟩ : ∃ z, x % y = z := ⟨_, rfl⟩
      have ez : (x : Int).tmod (y : Int) = (z : Int) := by rw [← hz]; rfl
      have zl : z < y := by rw [← hz]; exact Nat.mod_lt _ (by omega)
      have z0 : (0 : Int) ≤ (z : Int) := by omega
      have z1 : (z : Int) < (y : Int) := by omega
      have HZ := Lib.hid (And.intro hz zl)
      have HH := Lib.hid h
      clear h hz zl
      go_wp2_with fail
      go_region
      go_wp2_with fail
      go_roundw
      case rel => exact ⟨y, z, rfl, rfl, HG.out.2.1, by have := HZ.out.2; have := HG.out.2.1; omega, by
        rw [← HZ.out.1, ← HG.out.2.2.1, Nat.gcd_comm x y, Nat.gcd_rec y x, Nat.gcd_comm (x % y) y], HG.out.2.2.2.drew⟩
      case measure => simp [intOf]; have := HZ.out.2; omega
section
variable {R : TabR} {w0 W : World} {p : Addr} {T : TabM.T} {m : Nat}
theorem nm2_size (i : Nat) : (⟨(nm2 i).toArray⟩ : ByteArray).size = 2 := rfl
theorem nm2_data (i : Nat) : (⟨(nm2 i).toArray⟩ : ByteArray).data.toList = nm2 i := rfl
theorem name2_at (O : TabOk R) (i : Nat) (h : TSt R w0 W p T m) (hi : i ≤ 676) :
    Calls Try.prog 16 #[.int .i64 (i : Int)] W fun e w' => e = .returned (.string ⟨(nm2 i).toArray⟩) ∧ TSt R w0 w' p T m :=
  (name2_any i hi W).mono fun e w' ⟨he, hb⟩ => ⟨he, h.keep O hb⟩
theorem gcd_at (O : TabOk R) (a b : Nat) (h : TSt R w0 W p T m) (ha : a ≤ 1048576) (hb : b ≤ 1048576) :
    Calls Try.prog 18 #[.int .i64 (a : Int), .int .i64 (b : Int)] W fun e w' => e = .returned (.int .i64 ((Nat.gcd a b : Nat) : Int)) ∧ TSt R w0 w' p T m :=
  (gcd_any a b ha hb W).mono fun e w' ⟨he, hb⟩ => ⟨he, h.keep O hb⟩
theorem put2_at (O : TabOk R) (i : Nat) (h : TSt R w0 W p ⟨row2 i, i⟩ m) (hi : i ≤ 599) :
    Calls Try.prog 17 #[.pointer (some p), .string ⟨(nm2 i).toArray⟩, .int .i64 (i : Int)] W fun e w' => e = .returned (.tuple #[.int .i64 0, .bool false]) ∧ ∃ m', TSt R w0 w' p ⟨row2 (i + 1), i + 1⟩ m' := by
  have hv : pair (TabM.was (row2 i) (nm2 i)) (TabM.is (row2 i) (nm2 i)) = .tuple #[.int .i64 0, .bool false] := by
    unfold TabM.was TabM.is pair
    rw [get_row2 i i (by omega) (by omega), if_neg (by omega)]; rfl
  have q := h.step fun F hr => O.put hr ⟨(nm2 i).toArray⟩ (i : Int) (by rw [nm2_size]; decide) (by show (row2 i).length ≤ 1000; rw [row2_length]; omega)
  rw [nm2_data, hv, put_row2 i hi] at q
  exact q.mono fun e w' ⟨he, m', hm, _⟩ => ⟨he, m', hm⟩
theorem get2_at (O : TabOk R) (x : Nat) (h : TSt R w0 W p T m) (hg : TabM.get T.l (nm2 x) = some (x : Int)) :
    Calls Try.prog 19 #[.pointer (some p), .string ⟨(nm2 x).toArray⟩] W fun e w' => e = .returned (.tuple #[.int .i64 (x : Int), .bool true]) ∧ ∃ m', TSt R w0 w' p T m' := by
  have q := h.step fun F hr => O.get hr ⟨(nm2 x).toArray⟩ (by rw [nm2_size]; decide)
  rw [nm2_data, show pair (TabM.was T.l (nm2 x)) (TabM.is T.l (nm2 x)) = .tuple #[.int .i64 (x : Int), .bool true] from by unfold TabM.was TabM.is pair; rw [hg]; rfl] at q
  exact q.mono fun e w' ⟨he, m', hm, _⟩ => ⟨he, m', hm⟩
theorem none2_at (O : TabOk R) (x : Nat) (h : TSt R w0 W p T m) (hg : TabM.get T.l (nm2 x) = none) :
    Calls Try.prog 19 #[.pointer (some p), .string ⟨(nm2 x).toArray⟩] W fun e w' => e = .returned (.tuple #[.int .i64 0, .bool false]) ∧ ∃ m', TSt R w0 w' p T m' := by
  have q := h.step fun F hr => O.get hr ⟨(nm2 x).toArray⟩ (by rw [nm2_size]; decide)
  rw [nm2_data, show pair (TabM.was T.l (nm2 x)) (TabM.is T.l (nm2 x)) = .tuple #[.int .i64 0, .bool false] from by unfold TabM.was TabM.is pair; rw [hg]; rfl] at q
  exact q.mono fun e w' ⟨he, m', hm, _⟩ => ⟨he, m', hm⟩
theorem del2_at (O : TabOk R) (x : Nat) (h : TSt R w0 W p T m) (hg : TabM.get T.l (nm2 x) = some (x : Int)) :
    Calls Try.prog 20 #[.pointer (some p), .string ⟨(nm2 x).toArray⟩] W fun e w' => e = .returned (.tuple #[.int .i64 (x : Int), .bool true]) ∧ ∃ m', TSt R w0 w' p (TabM.del T (nm2 x)) m' := by
  have q := h.step fun F hr => O.del hr ⟨(nm2 x).toArray⟩ (by rw [nm2_size]; decide)
  rw [nm2_data, show pair (TabM.was T.l (nm2 x)) (TabM.is T.l (nm2 x)) = .tuple #[.int .i64 (x : Int), .bool true] from by unfold TabM.was TabM.is pair; rw [hg]; rfl] at q
  exact q.mono fun e w' ⟨he, m', hm, _⟩ => ⟨he, m', hm⟩
end
set_option maxRecDepth 20000 in
set_option maxHeartbeats 8000000 in
theorem many_walk {R : TabR} (O : TabOk R) (n step : Int) (w : World) :
    Calls Try.prog 4 #[.int .i64 n, .int .i64 step] w fun e w' => e = .returned (.bool true) ∧ Below w.heap.size w w' := by
  have OO := Lib.hid O
  clear O
  obtain ⟨k0, hk0, ek⟩ := mod_lt n 600 (by decide) (by decide)
  have ek' : wrap64 ((IntKind.u64.wrap n).tmod 600) = (k0 : Int) := ek
  obtain ⟨kk, hkk⟩ : ∃ kk : Nat, kk = k0 + 1 := ⟨_, rfl⟩
  have hk1 : (1 : Int) + (k0 : Int) = (kk : Int) := by omega
  have kk1 : (1 : Int) ≤ (kk : Int) := by omega
  have kk2 : (kk : Int) ≤ 600 := by omega
  have KK : Hid (1 ≤ kk ∧ kk ≤ 600) := by show 1 ≤ kk ∧ kk ≤ 600; omega
  clear ek hkk hk0
  go_enter Try.func4, Try.ntmps4
  go_wp2_with fail
  go_at_call 7
  refine (tst_new OO.out w w (Below.refl _ w)).mono ?_
  rintro e w1 ⟨p, m1, rfl, h1⟩
  have H1 := Lib.hid h1
  clear h1
  go_wp2_with fail
  rw [ek']
  go_loopw [8] (fun i wr => ∃ (j m : Nat), j ≤ kk ∧ i = .int .i64 j ∧ TSt R w wr p ⟨row2 j, j⟩ m) (fun i _ => kk - (intOf i).toNat)
  case atStart => exact ⟨0, m1, Nat.zero_le _, rfl, H1.out⟩
  case round =>
    obtain ⟨i, m, hi, rfl, hst⟩ := hrel
    have HS := Lib.hid hst
    have i0 : (0 : Int) ≤ (i : Int) := by omega
    have i9 : (i : Int) ≤ 600 := by omega
    clear hst
    by_cases hlt : i < kk
    · have i1 : (i : Int) < (kk : Int) := by omega
      have LT : Hid (i ≤ 676 ∧ i ≤ 599) := by show i ≤ 676 ∧ i ≤ 599; have := KK.out.2; omega
      go_wp2_with fail
      go_at_call 16
      refine (name2_at OO.out i HS.out LT.out.1).mono ?_
      rintro e w2 ⟨rfl, h2⟩
      have H2 := Lib.hid h2
      clear h2
      go_wp2_with fail
      go_at_call 17
      refine (put2_at OO.out i H2.out LT.out.2).mono ?_
      rintro e w3 ⟨rfl, m3, h3⟩
      have H3 := Lib.hid h3
      clear h3
      go_wp2_with fail
      go_roundw
      case rel => exact ⟨i + 1, m3, hlt, by go_num, H3.out⟩
      case measure => simp [intOf]; omega
    · have i1 : (kk : Int) ≤ (i : Int) := by omega
      obtain rfl : i = kk := by omega
      obtain ⟨mm, hmm, em⟩ := mod_lt step i KK.out.1 (by have := KK.out.2; omega)
      obtain ⟨d0, hd0⟩ : ∃ d0 : Nat, d0 = mm + 1 := ⟨_, rfl⟩
      have hd1 : (1 : Int) + (mm : Int) = (d0 : Int) := by omega
      have D0 : Hid (1 ≤ d0 ∧ d0 ≤ i) := by show 1 ≤ d0 ∧ d0 ≤ i; omega
      have mm0 : (0 : Int) ≤ (mm : Int) := by omega
      have mm1 : (mm : Int) < (i : Int) := by omega
      clear hmm i1 hlt hd0 hi
      go_wp2_with fail
      go_at_call 10
      refine (len_at OO.out i HS.out (row2_length i)).mono ?_
      rintro e w2 ⟨rfl, h2⟩
      have H2 := Lib.hid h2
      clear h2
      go_wp2_with fail
      go_at_call 14
      refine (names_at OO.out i H2.out (row2_length i)).mono ?_
      rintro e w3 ⟨⟨A, cc, rfl⟩, h3⟩
      have H3 := Lib.hid h3
      clear h3
      go_wp2_with fail
      rw [em]
      go_loopw [11] (fun v wr => ∃ d m : Nat, 1 ≤ d ∧ d ≤ i + 1 ∧ v = .int .i64 d ∧ TSt R w wr p ⟨row2 i, i⟩ m) (fun v _ => i + 1 - (intOf v).toNat)
      case atStart => exact ⟨d0, m, D0.out.1, Nat.le_succ_of_le D0.out.2, by go_num, H3.out⟩
      case round =>
        obtain ⟨d, m', hd1', hd2, rfl, hst⟩ := hrel
        have HS2 := Lib.hid hst
        have HD := Lib.hid (And.intro hd1' hd2)
        have dd0 : (0 : Int) ≤ (d : Int) := by omega
        have dd9 : (d : Int) ≤ 601 := by omega
        have DL : Hid (d ≤ 1048576 ∧ i ≤ 1048576) := by show d ≤ 1048576 ∧ i ≤ 1048576; omega
        clear hst hd1' hd2
        go_wp2_with fail
        go_at_call 18
        refine (gcd_at OO.out d i HS2.out DL.out.1 DL.out.2).mono ?_
        rintro e w4 ⟨rfl, h4⟩
        have H4 := Lib.hid h4
        clear h4
        obtain ⟨g, hg⟩ : ∃ g, Nat.gcd d i = g := ⟨_, rfl⟩
        have HG := Lib.hid hg
        rw [hg]
        clear hg
        by_cases hg1 : g = 1
        · subst hg1
          have D9 : Hid (d ≤ 601) := by show d ≤ 601; have := HD.out.2; have := KK.out.2; omega
          go_wp2_with fail
          go_loopw [12, 13] (fun a v wr => ∃ j m : Nat, j ≤ i ∧ v = .int .i64 j ∧ a = .int .i64 ((j * d % i : Nat) : Int) ∧ TSt R w wr p ⟨rem2 d i j, i⟩ m) (fun _ v _ => i - (intOf v).toNat)
          case atStart => exact ⟨0, m', Nat.zero_le _, rfl, by rw [Nat.zero_mul, Nat.zero_mod]; rfl, H4.out⟩
          case round =>
            obtain ⟨j, m5, hj, rfl, rfl, hst⟩ := hrel
            have HS5 := Lib.hid hst
            obtain ⟨x, hx⟩ : ∃ x, j * d % i = x := ⟨_, rfl⟩
            rw [hx]
            have xi : x < i := by rw [← hx]; exact Nat.mod_lt _ KK.out.1
            have HX := Lib.hid hx
            have HJ := Lib.hid hj
            have j0 : (0 : Int) ≤ (j : Int) := by omega
            have j9 : (j : Int) ≤ 600 := by omega
            have x0 : (0 : Int) ≤ (x : Int) := by omega
            have x9 : (x : Int) ≤ 600 := by omega
            have XL : Hid (x ≤ 676) := by show x ≤ 676; omega
            clear hst hx hj xi
            by_cases hlt : j < i
            · have j1 : (j : Int) < (i : Int) := by omega
              have G1 : Hid (TabM.get (rem2 d i j) (nm2 x) = some (x : Int)) := by
                have := rem_step d i j KK.out.2 KK.out.1 HG.out hlt
                rw [HX.out] at this
                exact this
              have G2 : Hid (TabM.get (rem2 d i (j + 1)) (nm2 x) = none) := by
                have := rem_gone d i j
                rw [HX.out] at this
                exact this
              have del : TabM.del ⟨rem2 d i j, i⟩ (nm2 x) = ⟨rem2 d i (j + 1), i⟩ := by rw [← HX.out]; rfl
              have DE := Lib.hid del
              obtain ⟨L, hL⟩ : ∃ L, L + (j + 1) = i := ⟨i - (j + 1), by omega⟩
              have HL : Hid ((rem2 d i (j + 1)).length = L) := by
                show (rem2 d i (j + 1)).length = L
                have := rem_len d i KK.out.2 KK.out.1 HG.out (j + 1) (by omega)
                omega
              have eL : (i : Int) - 1 - (j : Int) = (L : Int) := by omega
              obtain ⟨y, hy⟩ : ∃ y, (j + 1) * d % i = y := ⟨_, rfl⟩
              have ey : ((x : Int) + (d : Int)).tmod (i : Int) = (y : Int) := by
                have z := next_at j d i
                rw [HX.out, hy] at z
                rw [← z]
                rfl
              have HY := Lib.hid hy
              have LT := Lib.hid hlt
              have y9 : (y : Int) ≤ 600 := by
                have := Nat.mod_lt ((j + 1) * d) KK.out.1
                rw [hy] at this
                omega
              have y0 : (0 : Int) ≤ (y : Int) := by omega
              have i8 : (i : Int) ≤ 600 := by omega
              clear del hL hy hlt
              go_wp2_with fail
              go_at_call 16
              refine (name2_at OO.out x HS5.out XL.out).mono ?_
              rintro e u1 ⟨rfl, t1⟩
              have T1 := Lib.hid t1
              clear t1
              go_wp2_with fail
              go_at_call 19
              refine (get2_at OO.out x T1.out G1.out).mono ?_
              rintro e u2 ⟨rfl, n2, t2⟩
              have T2 := Lib.hid t2
              clear t2
              go_wp2_with fail
              go_at_call 16
              refine (name2_at OO.out x T2.out XL.out).mono ?_
              rintro e u3 ⟨rfl, t3⟩
              have T3 := Lib.hid t3
              clear t3
              go_wp2_with fail
              go_at_call 20
              refine (del2_at OO.out x T3.out G1.out).mono ?_
              rintro e u4' ⟨rfl, n4, t4⟩
              rw [DE.out] at t4
              have T4 := Lib.hid t4
              clear t4
              go_wp2_with fail
              go_at_call 10
              refine (len_at OO.out L T4.out HL.out).mono ?_
              rintro e u5 ⟨rfl, t5⟩
              have T5 := Lib.hid t5
              clear t5
              go_wp2_with fail
              go_at_call 16
              refine (name2_at OO.out x T5.out XL.out).mono ?_
              rintro e u6 ⟨rfl, t6⟩
              have T6 := Lib.hid t6
              clear t6
              go_wp2_with fail
              go_at_call 19
              refine (none2_at OO.out x T6.out G2.out).mono ?_
              rintro e u7 ⟨rfl, n7, t7⟩
              have T7 := Lib.hid t7
              clear t7
              go_wp2_with fail
              go_roundw
              case rel => exact ⟨j + 1, n7, LT.out, by go_num, by rw [HY.out], T7.out⟩
              case measure => simp [intOf]; have := LT.out; omega
            · have j1 : (i : Int) ≤ (j : Int) := by omega
              have ej : j = i := by have := HJ.out; omega
              have L0 : Hid ((rem2 d i j).length = 0) := by
                show (rem2 d i j).length = 0
                have := rem_len d i KK.out.2 KK.out.1 HG.out j HJ.out
                omega
              clear hlt ej
              go_wp2_with fail
              go_at_call 8
              refine (told_at OO.out HS5.out).mono ?_
              rintro e u1 ⟨rfl, t1⟩
              have T1 := Lib.hid t1
              clear t1
              go_wp2_with fail
              go_at_call 14
              refine (names_at OO.out 0 T1.out L0.out).mono ?_
              rintro e u2 ⟨⟨A2, c2, rfl⟩, t2⟩
              have T2 := Lib.hid t2
              clear t2
              go_wp2_with fail
              go_at_call 11
              refine (slots_at OO.out T2.out).mono ?_
              rintro e u3 ⟨⟨z, rfl, hz⟩, t3⟩
              have T3 := Lib.hid t3
              have z1 : (z : Int) ≤ 16 + 8 * (i : Int) := by have : z ≤ 16 + 8 * i := hz; omega
              clear t3 hz
              go_wp2_with fail
              go_ret
              exact ⟨by first | rfl | simp, T3.out.2⟩
        · have g1 : ¬ (g : Int) = 1 := by omega
          have lt : Hid (d < i + 1) := by
            show d < i + 1
            rcases Nat.lt_or_ge d (i + 1) with k | k
            · exact k
            · exfalso
              have e : d = i + 1 := by have := HD.out.2; omega
              have : Nat.gcd (i + 1) i = 1 := by rw [Nat.gcd_rec, Nat.gcd_comm]; simp
              rw [← e, HG.out] at this
              exact hg1 this
          clear hg1
          go_wp2_with fail
          go_roundw
          case rel => exact ⟨d + 1, m', by omega, lt.out, by go_num, H4.out⟩
          case measure => simp [intOf]; have := lt.out; omega
end Go.Proofs.Ytedpanfdkdbblaa
