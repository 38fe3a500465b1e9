/- The law: the border of a table into which all from 1 to n are put, in any order. -/
import Derived.Test.YtnknekliaejbaaaClG
import Derived.Test.YtnknekliaejbaaaCtSF
import Derived.Test.YtnknekliaejbaaaClN
import Derived.Laws.AppendOwn
namespace Go.Proofs.Ytnknekliaejbaaa
open Go.RowKit Go.Maps
set_option linter.unusedVariables false
namespace CtS
variable {w w' : World} {g : Nat} {m : Int → Option Nat} {val : Int → Value} {c bd : Nat} {G : Nat → Prop}
theorem Rel.border' (h : Rel w G g m val c bd) : Border m bd := by
  obtain ⟨mb, Z, f, l, st, bo, -⟩ := h
  exact bo
theorem Rel.below (h : Rel w G g m val c bd) (hb : Below w.heap.size w w') : Rel w' G g m val c bd := by
  obtain ⟨mb, Z, f, l, st, r⟩ := h
  exact ⟨mb, Z, f, l, st.below hb, r⟩
theorem border_rel (h : Rel w G g m val c bd) : Calls Try.prog 7 #[.pointer (some ⟨g, 0, none⟩)] w fun e w' => e = .returned (.int .i64 (bd : Int)) ∧ w' = w := by
  obtain ⟨mb, Z, f, l, st, -⟩ := h
  exact border_any st
theorem len_rel (h : Rel w G g m val c bd) : Calls Try.prog 8 #[.pointer (some ⟨g, 0, none⟩)] w fun e w' => e = .returned (.int .i64 (c : Int)) ∧ w' = w := by
  obtain ⟨mb, Z, f, l, st, -⟩ := h
  exact len_any st
end CtS
theorem u64_nat (a : Int) : ∃ x : Nat, IntKind.u64.wrap a = (x : Int) := by
  have h : 0 ≤ IntKind.u64.wrap a := by simp [IntKind.wrap, IntKind.bits, IntKind.signed]; omega
  exact ⟨(IntKind.u64.wrap a).toNat, (Int.toNat_of_nonneg h).symm⟩
theorem wrap_small {n : Int} (h0 : 0 ≤ n) (h1 : n ≤ 1000) : wrap64 n = n := by unfold wrap64; omega
theorem u64_small {n : Int} (h0 : 0 ≤ n) (h1 : n ≤ 1000) : IntKind.u64.wrap n = n := by simp [IntKind.wrap, IntKind.bits, IntKind.signed]; omega
theorem infoB : (Try.prog.info? 4).map (fun i => (i.zero, i.size, i.bytes)) = some (some (.bool false), 1, 1) := by kernel_rfl
def rowF (n : Nat) : Array Value := (List.replicate n (Value.bool false)).toArray
theorem made_bools (n : Nat) (w : World) (hn : n ≤ 1048576) : (Instr.makeSlice 26 (.int .i64 (n : Int)) (.int .i64 (n : Int))).run Try.prog w = .ok (.slice (some ⟨w.heap.size, 0, none⟩) n n) (w.alloc (.cells (rowF n) 4)) := by
  obtain ⟨i, hi, hz, h1, h2⟩ := info_parts infoB
  have h := run_make (P := Try.prog) w 26 4 i _ Try.underlying26 hi hz .i64 .i64 (n : Int) (n : Int) (by omega) (Int.le_refl _) (by rw [h2]; omega) (by omega)
  have e : madeCells (Value.bool false).cells (n * i.size) = rowF n := by
    rw [h1]
    apply Array.ext
    · simp [madeCells, rowF]
    · intro j h1 h2
      simp [madeCells, rowF, Value.cells, Nat.mod_one]
  have t : ((n : Int)).toNat = n := by omega
  rw [h, t, e]
/-- The row 'in': which numbers are keys. -/
structure Ins (w : World) (B k : Nat) (m : Int → Option Nat) : Prop where
  lt : B < w.heap.size
  free : ∀ i, w.frozen? ⟨B, i, none⟩ = false
  cell : ∀ j : Nat, j ≤ k + 1 → w.cell? ⟨B, j, none⟩ = some (.bool (m j).isSome)
theorem Ins.only {w w' : World} {B k : Nat} {m : Int → Option Nat} {F : Nat → Prop} (h : Ins w B k m) (o : Only F w w') (hF : ¬ F B) : Ins w' B k m :=
  ⟨Nat.lt_of_lt_of_le h.lt o.size, fun i => (World.frozen?_of_block (o.block B h.lt hF)).trans (h.free i), fun j hj => (World.cell?_of_block (o.block B h.lt hF)).trans (h.cell j hj)⟩
theorem Ins.put {w : World} {B k : Nat} {m : Int → Option Nat} (h : Ins w B k m) {n : Nat} (hn : n ≤ k + 1) (s : Nat) : Ins (w.setCell ⟨B, n, none⟩ (.bool true)) B k (upd m n (some s)) :=
  ⟨by rw [World.size_setCell]; exact h.lt, fun i => (World.frozen?_setCell _ _ _ _).trans (h.free i), fun j hj => by
    by_cases e : j = n
    · subst e
      rw [World.cell?_setCell_same _ _ _ (h.cell j hj), upd_same]; rfl
    · rw [World.cell?_setCell_other _ _ _ _ (fun x => by injection x with _ x; exact e x.symm), h.cell j hj, upd_other _ _ (by omega)]⟩
theorem ins_new (w : World) (k : Nat) : Ins (w.alloc (.cells (rowF (k + 2)) 4)) w.heap.size k (fun _ => none) :=
  ⟨by rw [World.size_alloc]; omega, fun i => World.frozen?_alloc_new _ _ _ _, fun j hj => by
    rw [World.cell?_alloc_new, rowF, List.getElem?_toArray, List.getElem?_replicate, if_pos (by omega)]; rfl⟩
/-- Which numbers are keys after i steps. -/
def Put (m : Int → Option Nat) (k d i : Nat) : Prop := ∀ n : Nat, (m n).isSome = true ↔ ∃ t, t < i ∧ n = (t * d) % k + 1
theorem Put.next {m : Int → Option Nat} {k d i s : Nat} (h : Put m k d i) : Put (upd m ((i * d) % k + 1 : Nat) (some s)) k d (i + 1) := fun n => by
  by_cases e : n = (i * d) % k + 1
  · subst e
    rw [upd_same]
    exact ⟨fun _ => ⟨i, by omega, rfl⟩, fun _ => rfl⟩
  · rw [upd_other _ _ (by omega), h n]
    refine ⟨fun ⟨t, ht, e2⟩ => ⟨t, by omega, e2⟩, fun ⟨t, ht, e2⟩ => ⟨t, ?_, e2⟩⟩
    rcases Nat.lt_or_ge t i with x | x
    · exact x
    · obtain rfl : t = i := by omega
      exact absurd e2 e
theorem Put.new {m : Int → Option Nat} {k d i : Nat} (h : Put m k d i) (g : Nat.gcd d k = 1) (hi : i < k) : m ((i * d) % k + 1 : Nat) = none := by
  cases hm : m ((i * d) % k + 1 : Nat) with
  | none => rfl
  | some s =>
    obtain ⟨t, ht, e⟩ := (h _).1 (by rw [hm]; rfl)
    exact absurd (Nat.succ.inj e).symm (Ring.apart g ht hi)
theorem Put.low {m : Int → Option Nat} {k d i b : Nat} (h : Put m k d i) (hk : 0 < k) (hb : Border m b) : b ≤ k := by
  rcases Nat.lt_or_ge k b with x | x
  · obtain ⟨t, -, e⟩ := (h (k + 1)).1 (hb.1 (k + 1) (by omega) (by omega))
    have := Nat.mod_lt (t * d) hk
    omega
  · exact x
theorem Put.whole {m : Int → Option Nat} {k d b : Nat} (h : Put m k d k) (g : Nat.gcd d k = 1) (hk : 0 < k) (hb : Border m b) : b = k := by
  have h1 := h.low hk hb
  rcases Nat.lt_or_ge b k with x | x
  · obtain ⟨t, ht, e⟩ := Ring.all (r := b) g x
    have := (h (b + 1)).2 ⟨t, ht, by rw [e]⟩
    rw [show ((b + 1 : Nat) : Int) = (b : Int) + 1 from by omega, hb.2] at this
    cases this
  · omega
abbrev xv : Int → Value := fun _ => .string ⟨#[120]⟩
/-- After i steps: the table, the row 'in'. -/
def Inv (w : World) (B ib g k e i : Nat) (wr : World) : Prop := ∃ G m bd, CtS.Rel wr G g m xv i bd ∧ Put m k e i ∧ Ins wr ib k m ∧ (∀ j, G j → B ≤ j ∧ j ≠ ib) ∧ Below B w wr
/-- On the way down: the table with all up to i. -/
def Down (B : Nat) (w : World) (g i : Nat) (wr : World) : Prop := ∃ G m, CtS.Rel wr G g m xv i i ∧ (∀ j, G j → B ≤ j) ∧ Below B w wr
set_option maxRecDepth 20000 in
set_option maxHeartbeats 2000000 in
theorem borders_walk (a b : Int) (w : World) (ha : (Lit.int .i64 a).wf = true) (hb : (Lit.int .i64 b).wf = true) :
    Calls Try.prog 3 #[.int .i64 a, .int .i64 b] w fun e w' => e = .returned (.bool true) ∧ Below w.heap.size w w' := by
  obtain ⟨x, hx⟩ := u64_nat a
  obtain ⟨y, hy⟩ := u64_nat b
  obtain ⟨k, hk⟩ : ∃ k : Nat, k = x % 200 + 1 := ⟨_, rfl⟩
  obtain ⟨d, hd⟩ : ∃ d : Nat, d = y % k + 1 := ⟨_, rfl⟩
  have k1 : 1 ≤ k := by omega
  have k2 : k ≤ 200 := by omega
  have d2 : d ≤ k := by have := Nat.mod_lt y (by omega : 0 < k); omega
  have d1 : 1 ≤ d := by omega
  have e1 : (x : Int).tmod 200 = ((x % 200 : Nat) : Int) := by rw [Int.tmod_eq_emod_of_nonneg (by omega)]; omega
  have K5 : Hid (wrap64 (1 + wrap64 ((IntKind.u64.wrap a).tmod 200)) = (k : Int)) := by
    show _ = _
    rw [hx, e1, wrap_small (n := ((x % 200 : Nat) : Int)) (by omega) (by omega), wrap_small (by omega) (by omega)]; omega
  have K6 : Hid (IntKind.u64.wrap (k : Int) = (k : Int)) := u64_small (by omega) (by omega)
  have K7 : Hid (wrap64 (1 + wrap64 ((IntKind.u64.wrap b).tmod (k : Int))) = (d : Int)) := by
    show _ = _
    rw [hy, show (y : Int).tmod (k : Int) = ((y % k : Nat) : Int) from by rw [Int.tmod_eq_emod_of_nonneg (by omega)]; exact (Int.natCast_emod y k).symm]
    obtain ⟨z, hz⟩ : ∃ z, z = y % k := ⟨_, rfl⟩
    rw [← hz] at hd ⊢
    rw [wrap_small (n := (z : Int)) (by omega) (by omega), wrap_small (by omega) (by omega)]; omega
  have kn : ¬ IntKind.u64.wrap (wrap64 (1 + wrap64 ((IntKind.u64.wrap a).tmod 200))) = 0 := by rw [K5.out, K6.out]; omega
  clear hk hd e1 hx hy
  go_enter Try.func3, Try.ntmps3
  go_wp2_with fail
  rw [K5.out, K6.out, K7.out]
  generalize (IntKind.u64.wrap b).tmod (k : Int) = zz
  generalize wrap64 ((IntKind.u64.wrap a).tmod 200) = z1
  generalize (IntKind.u64.wrap a).tmod 200 = z2
  generalize wrap64 zz = z3
  generalize IntKind.u64.wrap a = z4
  generalize IntKind.u64.wrap b = z5
  have k5 : (k : Int) ≤ 200 := by omega
  go_loopw [6] (fun v wr => ∃ e : Nat, 1 ≤ e ∧ e ≤ k + 1 ∧ v = .int .i64 (e : Int) ∧ Below w.heap.size w wr) (fun v _ => k + 1 - (RowKit.intOf v).toNat)
  case atStart => exact ⟨d, d1, by omega, rfl, Below.refl _ _⟩
  case round =>
    obtain ⟨e, e1, e2, rfl, bw⟩ := hrel
    have BW := Lib.hid bw
    clear bw
    have e5 : (e : Int) ≤ 201 := by omega
    have e0 : (0 : Int) ≤ (e : Int) := by omega
    rcases Decidable.em (Nat.gcd e k = 1) with hg | hg
    · have G := Lib.hid hg
      clear hg
      go_wp2_with (first
        | (go_at_call 4; refine (gcd_any e k _ (by omega) (by omega)).mono ?_; rintro x w1 ⟨rfl, b1⟩; rw [G.out]; have B1 := Lib.hid (BW.out.trans (b1.mono BW.out.size)); clear b1))
      go_at_call 5
      refine (CtS.new_any w1 (fun _ => .string ⟨#[120]⟩)).mono ?_
      rintro x w2 ⟨rfl, b2, z2', st2⟩
      have B2 := Lib.hid (B1.out.trans (b2.mono B1.out.size))
      have mk2 := made_bools (k + 2) w2 (by omega)
      rw [show ((k + 2 : Nat) : Int) = (k : Int) + 2 from by omega] at mk2
      obtain ⟨g, hg⟩ : ∃ g, w1.heap.size + 1 = g := ⟨_, rfl⟩
      rw [hg] at st2 ⊢
      have R2 : Hid (CtS.Rel w2 (fun j => j = w1.heap.size ∨ j = w1.heap.size + 1) g (fun _ => none) (fun _ => .string ⟨#[120]⟩) 0 0) := ⟨_, _, _, _, st2, ⟨fun j h1 h2 => by omega, rfl⟩, by omega, fun _ _ _ => rfl, fun j hj => by rcases hj with h | h | h; exact .inr (h.trans hg.symm); exact .inl h; exact h.elim⟩
      have Z2 := Lib.hid z2'
      have S1 := Lib.hid B1.out.size
      clear st2 b2 z2' hg
      go_wp2_with fail
      have I0 : Inv w w.heap.size w2.heap.size g k e 0 (w2.alloc (.cells (rowF (k + 2)) 4)) := by
        obtain ⟨mb, Z, f, l, st, rest⟩ := R2.out
        have al : Below w2.heap.size w2 (w2.alloc (.cells (rowF (k + 2)) 4)) := (Below.refl _ _).alloc (Nat.le_refl _) _
        refine ⟨_, _, _, ⟨mb, Z, f, l, st.below al, rest⟩, fun n => ⟨fun h => (by cases h), fun ⟨t, ht, _⟩ => (by omega)⟩, ins_new w2 k, fun j hj => ?_, B2.out.trans (al.mono B2.out.size)⟩
        have := Z2.out; have := S1.out
        rcases hj with h | h <;> omega
      have I0 := Lib.hid I0
      have HB : Hid (w.heap.size ≤ w2.heap.size) := B2.out.size
      clear mk2
      go_loopw [9, 10, 11] (fun at_ i_ _ wr => ∃ i : Nat, i ≤ k ∧ at_ = .int .i64 ((i * e % k : Nat) : Int) ∧ i_ = .int .i64 (i : Int) ∧ Inv w w.heap.size w2.heap.size g k e i wr) (fun _ i_ _ _ => k - (RowKit.intOf i_).toNat)
      case atStart => exact ⟨0, by omega, by rw [Nat.zero_mul, Nat.zero_mod]; rfl, rfl, I0.out⟩
      case round =>
        obtain ⟨i, hi, rfl, rfl, G1, m, bd, rel, put, ins, hG1, bel⟩ := hrel
        obtain ⟨at0, hat⟩ : ∃ t, i * e % k = t := ⟨_, rfl⟩
        have atk : at0 < k := by rw [← hat]; exact Nat.mod_lt _ k1
        rw [hat]
        have HAT := Lib.hid hat
        have R := Lib.hid rel
        have PT := Lib.hid put
        have IN := Lib.hid ins
        have HG := Lib.hid hG1
        have BL := Lib.hid bel
        clear hat rel put ins hG1 bel
        rcases Nat.lt_or_ge i k with hik | hik
        · have i1 : (i : Int) < (k : Int) := by omega
          have hm : m ((at0 + 1 : Nat) : Int) = none := by have := PT.out.new G.out hik; rw [HAT.out] at this; exact this
          have P := CtS.put_new (n := at0 + 1) (v := ⟨#[120]⟩) R.out (by omega) hm (by omega) rfl
          rw [show ((at0 + 1 : Nat) : Int) = (at0 : Int) + 1 from by omega] at P
          have P := Lib.hid P
          have a5 : (at0 : Int) ≤ 199 := by omega
          have a0 : (0 : Int) ≤ (at0 : Int) := by omega
          have a6 : (at0 : Int) + 1 < (k : Int) + 2 := by omega
          have aN : ((at0 : Int) + 1).toNat = at0 + 1 := by omega
          clear hm hik
          go_wp2_with (go_at_call 6; refine P.out.mono ?_; rintro x w3 ⟨rfl, s, b2, r3, o3⟩; have R3 := Lib.hid r3; have O3 := Lib.hid o3; have IN3 := Lib.hid (IN.out.only o3 (fun h => (HG.out _ h).2 rfl)); have cc := IN3.out.cell (at0 + 1) (by omega); have ff := IN3.out.free (at0 + 1); clear r3 o3)
          obtain ⟨w4, hw4⟩ : ∃ w4, w3.setCell ⟨w2.heap.size, at0 + 1, none⟩ (.bool true) = w4 := ⟨_, rfl⟩
          have e1 : (at0 : Int) + 1 = ((at0 + 1 : Nat) : Int) := by omega
          have r3 := R3.out
          rw [e1] at r3
          have in4 := IN3.out.put (n := at0 + 1) (by omega) s
          have hG4 : ∀ j, (G1 j ∨ wr.heap.size ≤ j) → w.heap.size ≤ j ∧ j ≠ w2.heap.size := fun j hj => by
            rcases hj with h | h
            · exact HG.out j h
            · have := BL.out.size; have := IN.out.lt; omega
          have r4 := r3.same (w' := w3.setCell ⟨w2.heap.size, at0 + 1, none⟩ (.bool true)) (by rw [World.size_setCell]; exact Nat.le_refl _) (fun j hj => Below.heap_setCell _ _ _ _ (hG4 j hj).2)
          have pt4 : Put (upd m ((at0 + 1 : Nat) : Int) (some s)) k e (i + 1) := by have := PT.out.next (s := s); rw [HAT.out] at this; exact this
          have bo4 := CtS.Rel.border' r4
          have low := pt4.low k1 bo4
          have bel4 : Below w.heap.size w (w3.setCell ⟨w2.heap.size, at0 + 1, none⟩ (.bool true)) := (BL.out.trans (O3.out.below (fun j hj => (HG.out j hj).1) BL.out.size)).setCell HB.out _
          rw [hw4] at in4 r4 bel4 ⊢
          have I4 : Hid (Inv w w.heap.size w2.heap.size g k e (i + 1) w4) := ⟨_, _, _, r4, pt4, in4, hG4, bel4⟩
          have IN4 := Lib.hid in4
          have R4 := Lib.hid r4
          have B4 := Lib.hid bo4
          clear r3 in4 r4 pt4 bo4 bel4 hw4 e1 cc ff
          have b5 : (b2 : Int) ≤ 200 := by omega
          go_loop [11] (fun b_ => ∃ c : Nat, c ≤ b2 ∧ b_ = .int .i64 (c : Int)) (fun b_ => b2 - (RowKit.intOf b_).toNat)
          case atStart => exact ⟨0, Nat.zero_le _, rfl⟩
          case round =>
            obtain ⟨c, hc, rfl⟩ := hrel
            have c0 : (0 : Int) ≤ (c : Int) := by omega
            have c5 : (c : Int) + 1 < (k : Int) + 2 := by omega
            have cN : ((c : Int) + 1).toNat = c + 1 := by omega
            have cell := IN4.out.cell (c + 1) (by omega)
            rcases Nat.lt_or_ge c b2 with hcb | hcb
            · rw [B4.out.1 (c + 1) (by omega) (by omega)] at cell
              go_wp2_with fail
              go_round
              case rel => exact ⟨c + 1, by omega, by go_num⟩
              case measure => simp [RowKit.intOf]; omega
            · obtain rfl : c = b2 := by omega
              rw [show ((c + 1 : Nat) : Int) = (c : Int) + 1 from by omega, B4.out.2] at cell
              go_wp2_with (first
                | (go_at_call 7; refine (CtS.border_rel R4.out).mono ?_; rintro x w5 ⟨rfl, rfl⟩)
                | (go_at_call 8; refine (CtS.len_rel R4.out).mono ?_; rintro x w5 ⟨rfl, rfl⟩))
              have E9 : Hid (((at0 : Int) + (e : Int)) % (k : Int) = (((i + 1) * e % k : Nat) : Int)) := by
                show _ = _
                rw [← Ring.next, HAT.out, Int.natCast_emod, Int.natCast_add]
              go_roundw
              case rel => exact ⟨i + 1, by omega, by rw [E9.out], by go_num, I4.out⟩
              case measure => simp [RowKit.intOf]; omega
        · obtain rfl : i = k := by omega
          obtain rfl := PT.out.whole G.out k1 R.out.border'
          have J0 : Hid (Down w.heap.size w g bd wr) := ⟨_, _, R.out, fun j hj => (HG.out j hj).1, BL.out⟩
          go_wp2_with fail
          go_loopw [12] (fun v wr => ∃ i : Nat, i ≤ bd ∧ v = .int .i64 (i : Int) ∧ Down w.heap.size w g i wr) (fun v _ => (RowKit.intOf v).toNat)
          case atStart => exact ⟨bd, Nat.le_refl _, rfl, J0.out⟩
          case round =>
            obtain ⟨i, hi, rfl, G3, m3, r3, hG3, bl3⟩ := hrel
            have RR := Lib.hid r3
            have HH := Lib.hid hG3
            have BB := Lib.hid bl3
            clear r3 hG3 bl3
            have i0 : (0 : Int) ≤ (i : Int) := by omega
            have i5 : (i : Int) ≤ 200 := by omega
            cases i with
            | zero =>
              go_wp2_with (first
                | (go_at_call 10; refine (CtI.told_any _).mono ?_; rintro x w7 ⟨rfl, b7⟩; have R7 := Lib.hid (RR.out.below b7); have B7 := Lib.hid (BB.out.trans (b7.mono BB.out.size)); clear b7)
                | (go_at_call 7; refine (CtS.border_rel R7.out).mono ?_; rintro x w5 ⟨rfl, rfl⟩)
                | (go_at_call 8; refine (CtS.len_rel R7.out).mono ?_; rintro x w5 ⟨rfl, rfl⟩))
              go_ret
              exact ⟨rfl, B7.out⟩
            | succ i =>
              obtain ⟨s, hs⟩ := Option.isSome_iff_exists.1 (RR.out.border'.1 (i + 1) (by omega) (Nat.le_refl _))
              have DL := Lib.hid (CtS.del_top (n := i + 1) RR.out (by omega) (Nat.le_refl _) hs)
              have one : (1 : Int) ≤ ((i + 1 : Nat) : Int) := by omega
              clear hs
              go_wp2_with (first
                | (go_at_call 7; refine (CtS.border_rel RR.out).mono ?_; rintro x w5 ⟨rfl, rfl⟩)
                | (go_at_call 9; refine DL.out.mono ?_; rintro x w5 ⟨rfl, r5, o5⟩; have R5 := Lib.hid r5; have O5 := Lib.hid (BB.out.trans (o5.below (fun j hj => HH.out j hj) BB.out.size)); clear r5 o5))
              go_roundw
              case rel => exact ⟨i, by omega, by go_num, _, _, R5.out, HH.out, O5.out⟩
              case measure => simp [RowKit.intOf]
    · have ek : e ≤ k := by
        rcases Nat.lt_or_ge k e with x | x
        · obtain rfl : e = k + 1 := by omega
          exact absurd (Nat.dvd_one.1 ((Nat.dvd_add_right (Nat.gcd_dvd_right (k + 1) k)).1 (Nat.gcd_dvd_left (k + 1) k))) hg
        · exact x
      have gi : ¬ ((Nat.gcd e k : Nat) : Int) = 1 := by omega
      have gb : (((Nat.gcd e k : Nat) : Int) != 1) = true := by simpa using gi
      clear hg
      go_wp2_with (first
        | (go_at_call 4; refine (gcd_any e k _ (by omega) (by omega)).mono ?_; rintro x w1 ⟨rfl, b1⟩; have B1 := Lib.hid (BW.out.trans (b1.mono BW.out.size)); clear b1))
      go_roundw
      case rel => exact ⟨e + 1, by omega, by omega, by go_num, B1.out⟩
      case measure => simp [RowKit.intOf]; omega
end Go.Proofs.Ytnknekliaejbaaa
