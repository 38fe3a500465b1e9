/- The walk of the law ChunkThrough. -/
import Derived.Test.YteghokakjonblaaChLaw
import Derived.Test.YteghokakjonblaaChPl
import Derived.Test.YteghokakjonblaaConv
namespace Go.Proofs.Yteghokakjonblaa
open Go.RowKit Go.Lib
set_option linter.unusedVariables false
def nmB (i : Nat) : List UInt8 := [UInt8.ofNat (i % 256), UInt8.ofNat (i / 256)]
theorem nmT_is (i : Nat) : nmT i = ⟨(nmB i).toArray⟩ := rfl
theorem name_any (i : Nat) (hi : i ≤ 400) (w : World) :
    Calls Try.prog 15 #[.int .i64 (i : Int)] w fun e w' => e = .returned (.string (nmT i)) ∧ Below w.heap.size w w' := by
  have i0 : (0 : Int) ≤ (i : Int) := by omega
  have i1 : (i : Int) ≤ 400 := by omega
  obtain ⟨a, ha⟩ : ∃ a : Nat, i % 256 = a := ⟨_, rfl⟩
  obtain ⟨b, hb⟩ : ∃ b : Nat, i / 256 = b := ⟨_, rfl⟩
  have ea : IntKind.u8.wrap (i : Int) = (a : Int) := by rw [← ha, IntKind.wrap_u8]; omega
  have eb : (i : Int) / 256 = (b : Int) := by rw [← hb]; rfl
  have eb2 : IntKind.u8.wrap (b : Int) = (b : Int) := by rw [IntKind.wrap_u8]; omega
  have cells : #[Value.int .u8 (a : Int), .int .u8 (b : Int)] = ((nmB i).map bv).toArray := by
    have x1 : ((UInt8.ofNat (i % 256)).toNat : Int) = (a : Int) := by rw [UInt8.toNat_ofNat', ← ha]; omega
    have x2 : ((UInt8.ofNat (i / 256)).toNat : Int) = (b : Int) := by rw [UInt8.toNat_ofNat', ← hb]; omega
    simp only [nmB, List.map_cons, List.map_nil, bv, x1, x2]
  have cv : (convert 37 9 (.slice (some ⟨w.heap.size, 0, none⟩) 2 2)).run Try.prog (w.alloc (.cells #[Value.int .u8 (a : Int), .int .u8 (b : Int)] 5)) = .ok (.string (nmT i)) (w.alloc (.cells #[Value.int .u8 (a : Int), .int .u8 (b : Int)] 5)) :=
    convert_n 2 2 rfl (Bs.new w _ 5 (0, 0) (nmB i) cells)
  have HCV := Lib.hid cv
  clear cells cv ha hb
  go_enter Try.func15, Try.ntmps15
  go_wp2_with fail
  rw [HCV.out]
  go_wp2_with fail
  go_ret
  exact ⟨rfl, (Below.refl _ w).alloc (Nat.le_refl _) _⟩
set_option maxRecDepth 20000 in
set_option maxHeartbeats 8000000 in
theorem through_walk (n : Int) (f : Bool) (every : Int) (w : World) :
    Calls Try.prog 4 #[.int .i64 n, .bool f, .int .i64 every] w fun e w' => e = .returned (.bool true) ∧ Below w.heap.size w w' := by
  have q0 := run_nil_row
  obtain ⟨k0, hk0, ek⟩ := mod_lt n 300 (by decide) (by decide)
  have ek' : wrap64 ((IntKind.u64.wrap n).tmod 300) = (k0 : Int) := ek
  obtain ⟨e0, he0, ee⟩ := mod_lt every 9 (by decide) (by decide)
  have ee' : wrap64 ((IntKind.u64.wrap every).tmod 9) = (e0 : Int) := ee
  obtain ⟨k, hk⟩ : ∃ k : Nat, k = k0 + 1 := ⟨_, rfl⟩
  have hk1 : (1 : Int) + (k0 : Int) = (k : Int) := by omega
  obtain ⟨d, hd⟩ : ∃ d : Nat, d = e0 + 2 := ⟨_, rfl⟩
  have hd1 : (2 : Int) + (e0 : Int) = (d : Int) := by omega
  have kk1 : (1 : Int) ≤ (k : Int) := by omega
  have kk2 : (k : Int) ≤ 300 := by omega
  have dd1 : (2 : Int) ≤ (d : Int) := by omega
  have dd2 : (d : Int) ≤ 11 := by omega
  have KK : Hid (1 ≤ k ∧ k ≤ 300 ∧ 2 ≤ d ∧ d ≤ 11) := by show 1 ≤ k ∧ k ≤ 300 ∧ 2 ≤ d ∧ d ≤ 11; omega
  have NW := Lib.hid (new_any w)
  clear ek hk hk0 ee he0 hd
  go_enter Try.func4, Try.ntmps4
  go_wp2_with fail
  go_at_call 14
  with_reducible refine NW.out.mono ?_
  rintro e w1 ⟨q, rfl, f0⟩
  have F0 : Hid (Fresh w w1 q (hold f 0 0)) := by
    show Fresh w w1 q (hold f 0 0)
    rw [hold_none]; exact f0
  clear f0
  go_wp2_with fail
  go_loopw [10, 12, 13, 14] (fun nx i _ _ wr => ∃ a b : Nat, a ≤ b ∧ b ≤ k ∧ nx = .int .i64 (a : Int) ∧ i = .int .i64 (b : Int) ∧ Fresh w wr q (hold f a b)) (fun _ i _ _ _ => k - (RowKit.intOf i).toNat)
  case atStart => exact ⟨0, 0, Nat.le_refl _, Nat.zero_le _, rfl, rfl, F0.out⟩
  case round =>
    obtain ⟨a, b, hab, hbk, rfl, rfl, fr⟩ := hrel
    have FR := Lib.hid fr
    have AB := Lib.hid (And.intro hab hbk)
    have a0 : (0 : Int) ≤ (a : Int) := by omega
    have b0 : (0 : Int) ≤ (b : Int) := by omega
    have a9 : (a : Int) ≤ 300 := by omega
    have b9 : (b : Int) ≤ 300 := by omega
    clear fr
    by_cases lt : b < k
    · have lt' : (b : Int) < (k : Int) := by omega
      have LT := Lib.hid lt
      have NB := Lib.hid (name_any b (by omega))
      have PU := Lib.hid (fun W (h : Fresh w W q (hold f a b)) => f_push h (by rw [hold_len]; omega) f (nmT b) (show (2 : Nat) ≤ 281474976710656 by decide))
      rw [hold_push f hab] at PU
      obtain ⟨r, hr⟩ : ∃ r, r = b % d := ⟨_, rfl⟩
      have er : (b : Int).tmod (d : Int) = (r : Int) := by rw [hr]; rfl
      have r0 : (0 : Int) ≤ (r : Int) := by omega
      have r1 : (r : Int) ≤ 11 := by
        have := Nat.mod_lt b (show 0 < d by omega)
        omega
      clear lt hab hbk hr
      go_wp2_with fail
      go_at_call 15
      with_reducible refine (NB.out _).mono ?_
      rintro e w2 ⟨rfl, hb2⟩
      have F2 := Lib.hid (FR.out.keep hb2)
      clear hb2
      go_wp2_with fail
      go_at_call 16
      with_reducible refine (PU.out _ F2.out).mono ?_
      rintro e w3 ⟨rfl, f3⟩
      have F3 := Lib.hid f3
      clear f3
      by_cases rz : r = 0
      · have rz' : (r : Int) = 0 := by omega
        subst rz
        have ho := hold_other f (a := a) (b := b + 1) (by have := AB.out.1; omega)
        have PO := Lib.hid (f_pop F3.out (by rw [hold_len]; have := KK.out; have := AB.out; omega) (!f))
        rw [ho.1, ho.2.1, ho.2.2] at PO
        have NA := Lib.hid (name_any a (by omega))
        obtain ⟨nm, enm⟩ : ∃ nm, nm = nmT a := ⟨_, rfl⟩
        rw [← enm] at PO NA
        clear ho enm
        go_wp2_with fail
        go_at_call 17
        with_reducible refine PO.out.mono ?_
        rintro e w4 ⟨rfl, f4⟩
        have F4 := Lib.hid f4
        clear f4
        go_wp2_with fail
        go_at_call 15
        with_reducible refine (NA.out _).mono ?_
        rintro e w5 ⟨rfl, hb5⟩
        have F5 := Lib.hid (F4.out.keep hb5)
        clear hb5
        go_wp2_with fail
        go_roundw
        case rel => exact ⟨a + 1, b + 1, by have := AB.out; omega, by have := LT.out; omega, by go_num, by go_num, F5.out⟩
        case measure => have := LT.out; simp [RowKit.intOf]; omega
      · have rz' : ¬ ((r : Int) = 0) := by omega
        clear rz
        go_wp2_with fail
        go_roundw
        case rel => exact ⟨a, b + 1, by have := AB.out; omega, by have := LT.out; omega, rfl, by go_num, F3.out⟩
        case measure => have := LT.out; simp [RowKit.intOf]; omega
    · have ge : (k : Int) ≤ (b : Int) := by omega
      obtain rfl : b = k := by omega
      obtain ⟨t, ht⟩ : ∃ t, t = b - a := ⟨_, rfl⟩
      have t1 : (b : Int) - (a : Int) = (t : Int) := by omega
      obtain ⟨h, hh⟩ : ∃ h, h = t / 2 := ⟨_, rfl⟩
      have h1 : (t : Int).tdiv 2 = (h : Int) := by rw [hh]; rfl
      have h2 : (t : Int) / 2 = (h : Int) := by rw [hh]; rfl
      obtain ⟨m, hm⟩ : ∃ m, m = a + h := ⟨_, rfl⟩
      have m1 : (a : Int) + (h : Int) = (m : Int) := by omega
      have m0 : (0 : Int) ≤ (m : Int) := by omega
      have m9 : (m : Int) ≤ 300 := by omega
      have h0 : (0 : Int) ≤ (h : Int) := by omega
      have t0 : (0 : Int) ≤ (t : Int) := by omega
      have t9 : (t : Int) ≤ 300 := by omega
      have MM : Hid (a ≤ m ∧ m ≤ b ∧ b ≤ 300) := by show a ≤ m ∧ m ≤ b ∧ b ≤ 300; have := KK.out; omega
      clear ht hh hm lt hab hbk
      go_wp2_with fail
      go_loopw [15, 16, 17] (fun i _ _ wr => ∃ c : Nat, m ≤ c ∧ c ≤ b ∧ i = .int .i64 ((c : Int) - 1) ∧ Fresh w wr q (hold f a c)) (fun i _ _ _ => (RowKit.intOf i + 1).toNat)
      case atStart => exact ⟨b, MM.out.2.1, Nat.le_refl _, rfl, FR.out⟩
      case round =>
        obtain ⟨c, hmc, hcb, rfl, fr⟩ := hrel
        have FR2 := Lib.hid fr
        have c9 : (c : Int) ≤ 300 := by omega
        clear fr
        by_cases lt : m < c
        · obtain ⟨x, rfl⟩ : ∃ x, c = x + 1 := ⟨c - 1, by omega⟩
          have hx : a ≤ x := by have := MM.out; omega
          have ex : (((x + 1 : Nat) : Int)) - 1 = (x : Int) := by omega
          rw [ex]
          have mx : (m : Int) ≤ (x : Int) := by omega
          have x0 : (0 : Int) ≤ (x : Int) := by omega
          have x9 : (x : Int) ≤ 300 := by omega
          have ho := hold_same f hx
          have PO := Lib.hid (f_pop FR2.out (by rw [hold_len]; have := MM.out; omega) f)
          rw [ho.1, ho.2.1, ho.2.2] at PO
          have NX := Lib.hid (name_any x (by omega))
          obtain ⟨nm, enm⟩ : ∃ nm, nm = nmT x := ⟨_, rfl⟩
          rw [← enm] at PO NX
          obtain ⟨L, hL⟩ : ∃ L, L = x - a := ⟨_, rfl⟩
          have lenx : (hold f a x).length = L := by rw [hold_len, hL]
          obtain ⟨u, hu⟩ : ∃ u, u = L / 8 := ⟨_, rfl⟩
          have u1 : (L : Int).tdiv 8 = (u : Int) := by rw [hu]; rfl
          have u2 : (L : Int) / 8 = (u : Int) := by rw [hu]; rfl
          have u0 : (0 : Int) ≤ (u : Int) := by omega
          have u9 : (u : Int) ≤ 300 := by omega
          have L0 : (0 : Int) ≤ (L : Int) := by omega
          have L9 : (L : Int) ≤ 300 := by omega
          have LX := Lib.hid (And.intro lenx (And.intro hu (And.intro lt hcb)))
          clear ho enm lenx hu hL ex lt hmc hcb c9
          go_wp2_with fail
          go_at_call 17
          with_reducible refine PO.out.mono ?_
          rintro e w4 ⟨rfl, f4⟩
          have F4 := Lib.hid f4
          clear f4
          go_wp2_with fail
          go_at_call 15
          with_reducible refine (NX.out _).mono ?_
          rintro e w5 ⟨rfl, hb5⟩
          have F5 := Lib.hid (F4.out.keep hb5)
          clear hb5
          go_wp2_with fail
          go_at_call 11
          with_reducible refine (f_chunks F5.out).mono ?_
          rintro e w6 ⟨⟨z, rfl, hz⟩, rfl⟩
          have z1 : (z : Int) ≤ (u : Int) + 2 := by have := LX.out; omega
          have z0 : (0 : Int) ≤ (z : Int) := by omega
          have LE := Lib.hid (f_len F5.out)
          rw [LX.out.1] at LE
          clear hz
          go_wp2_with fail
          go_at_call 10
          with_reducible refine LE.out.mono ?_
          rintro e w7 ⟨rfl, rfl⟩
          go_wp2_with fail
          go_roundw
          case rel => exact ⟨x, by have := LX.out; omega, by have := LX.out; omega, by go_num, F5.out⟩
          case measure => simp [RowKit.intOf]
        · have ge2 : (c : Int) - 1 < (m : Int) := by omega
          obtain rfl : c = m := by omega
          have c0 : (0 : Int) ≤ (c : Int) := by omega
          clear lt
          go_wp2_with fail
          go_loopw [18, 19, 20] (fun i _ _ wr => ∃ x : Nat, a ≤ x ∧ x ≤ c ∧ i = .int .i64 (x : Int) ∧ Fresh w wr q (hold f x c)) (fun i _ _ _ => c - (RowKit.intOf i).toNat)
          case atStart => exact ⟨a, Nat.le_refl _, MM.out.1, rfl, FR2.out⟩
          case round =>
            obtain ⟨x, hax, hxc, rfl, fr⟩ := hrel
            have FR3 := Lib.hid fr
            clear fr
            have x0 : (0 : Int) ≤ (x : Int) := by omega
            have x9 : (x : Int) ≤ 300 := by omega
            obtain ⟨L, hL⟩ : ∃ L, L = c - x := ⟨_, rfl⟩
            have LE := Lib.hid (f_len FR3.out)
            rw [hold_len, ← hL] at LE
            have L0 : (0 : Int) ≤ (L : Int) := by omega
            have XC := Lib.hid (And.intro hax (And.intro hxc hL))
            by_cases lt : x < c
            · have Lp : (0 : Int) < (L : Int) := by omega
              have ho := hold_other f (a := x) (b := c) lt
              have PO := Lib.hid (f_pop FR3.out (by rw [hold_len]; have := MM.out; omega) (!f))
              rw [ho.1, ho.2.1, ho.2.2] at PO
              have NX := Lib.hid (name_any x (by omega))
              obtain ⟨nm, enm⟩ : ∃ nm, nm = nmT x := ⟨_, rfl⟩
              rw [← enm] at PO NX
              have LT := Lib.hid lt
              clear ho enm hL hax hxc lt
              go_wp2_with fail
              go_at_call 10
              with_reducible refine LE.out.mono ?_
              rintro e w7 ⟨rfl, rfl⟩
              go_wp2_with fail
              go_at_call 17
              with_reducible refine PO.out.mono ?_
              rintro e w4 ⟨rfl, f4⟩
              have F4 := Lib.hid f4
              clear f4
              go_wp2_with fail
              go_at_call 15
              with_reducible refine (NX.out _).mono ?_
              rintro e w5 ⟨rfl, hb5⟩
              have F5 := Lib.hid (F4.out.keep hb5)
              clear hb5
              go_wp2_with fail
              go_roundw
              case rel => exact ⟨x + 1, by have := XC.out; omega, by have := LT.out; omega, by go_num, F5.out⟩
              case measure => have := LT.out; simp [RowKit.intOf]; omega
            · have ex : x = c := by omega
              have Lz : L = 0 := by omega
              subst Lz
              have PO := Lib.hid (f_pop FR3.out (by rw [hold_len]; have := MM.out; omega) f)
              rw [ex, hold_none, (pop_nil f).1, (pop_nil f).2.1, show ([] : List ByteArray).length = 0 from rfl, (pop_nil f).2.2] at PO
              clear ex hL hax hxc lt
              go_wp2_with fail
              go_at_call 10
              with_reducible refine LE.out.mono ?_
              rintro e w7 ⟨rfl, rfl⟩
              go_wp2_with fail
              go_at_call 17
              with_reducible refine PO.out.mono ?_
              rintro e w4 ⟨rfl, f4⟩
              have F4 := Lib.hid f4
              clear f4
              go_wp2_with fail
              go_at_call 7
              with_reducible refine (told_any _).mono ?_
              rintro e w5 ⟨rfl, hb5⟩
              have F5 := Lib.hid (F4.out.keep hb5)
              clear hb5
              go_wp2_with fail
              go_ret
              exact ⟨rfl, F5.out.bel⟩
end Go.Proofs.Yteghokakjonblaa
