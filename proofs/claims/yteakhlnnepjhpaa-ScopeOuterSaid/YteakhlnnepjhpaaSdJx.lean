/- The law ScopeOuter walked. -/
import Derived.Test.YteakhlnnepjhpaaSdGx
import Derived.Test.YteakhlnnepjhpaaSdIx
import Derived.Test.YteakhlnnepjhpaaSdBx
import Derived.Test.YteakhlnnepjhpaaScVx
namespace Go.Proofs.Yteakhlnnepjhpaa
open Go.RowKit PrM
set_option linter.unusedVariables false
set_option linter.unusedSimpArgs false
/-- What a script's tree is, where it is one. -/
structure Tree (x : X) : Prop where
 fit : x.fit 100000
 shp : Shp x
 sz : ScM.sz x ≤ 900000000000
theorem script_two (s : ByteArray) (hs : s.size ≤ 1500) :
  (∃ c a : Int, c ≠ 0 ∧ ∀ W : World, Calls Try.prog 6 #[.string s] W fun e W' => e = .returned (.tuple #[.slice none 0 0, .int .i64 c, .int .i64 a]) ∧ Below W.heap.size W W') ∨
  (∃ x : X, Tree x ∧ ∀ W : World, Calls Try.prog 6 #[.string s] W fun e W' => (∃ A c, e = .returned (.tuple #[.slice A x.len c, .int .i64 0, .int .i64 0]) ∧ Sl x.len (Rd W' (fun k => k < W'.heap.size) x).row 5 (.slice A x.len c)) ∧ Below W.heap.size W W') := by
 have hsa := fun W => script_any W s (by omega)
 cases hF : LxM.lex s.data.toList with
 | bad q =>
  rw [hF] at hsa
  exact .inl ⟨14, (q : Int), by decide, fun W => (hsa W).mono fun e W' h => h⟩
 | ok T =>
  rw [hF] at hsa
  have hc := lex_count hF
  have zs : s.data.toList.length = s.size := by simp
  by_cases h0 : (script T).2.code = 0
  ·refine .inr ⟨(script T).1, ⟨script_fits hF (by omega), script_shp T, ?_⟩, fun W => (hsa W).mono ?_⟩
   ·have k := script_sz (w := T.length + 10) (Nat.le_refl _) h0
    have k2 : (T.length + 10) * T.length ≤ 1511 * 1501 := Nat.mul_le_mul (by omega) (by omega)
    omega
   ·rintro e W' ⟨hm, b⟩
    obtain ⟨v, rfl, sl⟩ := hm.1 h0
    have sl2 := Sl.lo sl
    obtain ⟨A, c, rfl⟩ : ∃ A c, v = .slice A (script T).1.len c := by obtain ⟨A, c, e, -⟩ := sl; exact ⟨A, c, e⟩
    exact ⟨⟨A, c, rfl, sl2⟩, b⟩
  ·exact .inl ⟨(script T).2.code, (script T).2.at_, h0, fun W => (hsa W).mono fun e W' h => ⟨h.1.2 h0, h.2⟩⟩
theorem FO.at {w : World} {B : Nat} {P : Nat → Prop} {v : Value} {l : List (List ByteArray × X)} {i : Nat} {p : List ByteArray × X} (h : FO w B P v l) (hi : l[i]? = some p) :
  ∃ q n c u0 u1, v = .slice (some ⟨q, 0, none⟩) n c ∧ (w.cell? ⟨q, i * 2, none⟩ = some u0 ∧ w.cell? ⟨q, i * 2 + 1, none⟩ = some u1) ∧ Fv w P u0 u1 p := by
 obtain ⟨cs, h1, h2⟩ := h
 obtain ⟨u0, u1, e0, e1, f⟩ := h2.at hi
 rcases h1.2 with ⟨rfl, h0⟩ | ⟨q, cap, cur, rfl, hq, hqb, hn, -⟩
 ·have : l = [] := List.eq_nil_of_length_eq_zero h0
  rw [this] at hi
  cases hi
 ·refine ⟨q, _, cap, u0, u1, rfl, ⟨?_, ?_⟩, f⟩
  ·have k := World.ownsRow.cells h1 rfl (i * 2) u0 e0
   have e : (⟨q, 0, none⟩ : Addr).add (i * 2) = ⟨q, i * 2, none⟩ := by unfold Addr.add; split <;> simp_all
   rwa [e] at k
  ·have k := World.ownsRow.cells h1 rfl (i * 2 + 1) u1 e1
   have e : (⟨q, 0, none⟩ : Addr).add (i * 2 + 1) = ⟨q, i * 2 + 1, none⟩ := by unfold Addr.add; split <;> simp_all
   rwa [e] at k
theorem rtexts_same (w : World) {P Q : Nat → Prop} {l : List ByteArray} {u v : Value} (h : Strs w P u l) (k : Strs w Q v l) (hb : l.length ≤ 1000000000000) : Calls Try.prog 12 #[u, v] w (SR true w) := by
 have t := rtexts w P Q l l u v h k hb
 rwa [decide_eq_true rfl] at t
set_option maxRecDepth 20000 in
set_option maxHeartbeats 4000000 in
theorem outer_walk (w : World) (s : ByteArray) : Calls Try.prog 4 #[.string s] w fun e w' => e = .returned (.bool true) ∧ Below w.heap.size w w' := by
 have TO := Lib.hid (fun W => told_s W)
 by_cases hs : s.size ≤ 1500
 ·have q1 : ¬ (1500 : Int) < (s.size : Int) := by omega
  rcases script_two s hs with ⟨c, a, h0, hS⟩ | ⟨x, tr, hS⟩
  ·have SC := Lib.hid hS
   have q2 : (c != 0) = true := by simpa using h0
   clear hS h0 hs
   go_enter Try.func4, Try.ntmps4
   go_wp2_with (first
    |(go_at_call 6; (with_reducible refine (SC.out _).mono ?_); rintro e w1 ⟨rfl, b1⟩; have Y1 := Lib.hid b1; clear b1)
    |(go_at_call 5; refine (TO.out _).mono ?_; rintro e w3 ⟨rfl, b3⟩; have Y3 := Lib.hid (Y1.out.trans (b3.mono Y1.out.size)); clear b3))
   go_ret
   exact ⟨rfl, Y3.out⟩
  ·have SC := Lib.hid hS
   have TR := Lib.hid tr
   obtain ⟨n, hn⟩ : ∃ n, (fns x).2.length = n := ⟨_, rfl⟩
   have HN := Lib.hid hn
   have n0 : (0 : Int) ≤ (n : Int) := by omega
   have n1 : (n : Int) ≤ 900000000000 := by have := (fns_len x).2; have := tr.sz; omega
   clear hS hs tr hn
   go_enter Try.func4, Try.ntmps4
   go_wp2_with (first
    |(go_at_call 6; (with_reducible refine (SC.out _).mono ?_); rintro e w1 ⟨⟨A1, c1, rfl, s1⟩, b1⟩; have S1 := Lib.hid s1; have Y1 := Lib.hid b1; have C1 := Lib.hid (funcs_any TR.out.fit TR.out.sz w1 _ _ s1 (fun q hq => hq)); clear s1 b1)
    |(go_at_call 11; refine C1.out.mono ?_; rintro e w2 ⟨⟨v, rfl, f2⟩, b2⟩; have F2 := Lib.hid f2; have Y2 := Lib.hid (Y1.out.trans (b2.mono Y1.out.size)); have LO := Lib.hid b2.size; have SH := f2.shape; rw [HN.out] at SH; obtain ⟨A, c, rfl, hnc, -⟩ := SH; have hc1 : (n : Int) ≤ (c : Int) := (by omega); clear f2 b2 hnc))
   go_loopw [7] (fun u7 wr => ∃ i : Nat, u7 = .int .i64 (i : Int) ∧ i ≤ n ∧ Below w2.heap.size w2 wr) (fun u7 _ => (n : Int).toNat - (intOf u7).toNat)
   case atStart => exact ⟨0, rfl, Nat.zero_le _, Below.refl _ _⟩
   case round =>
    obtain ⟨i, rfl, hi, hb⟩ := hrel
    have BL := Lib.hid hb
    have i0 : (0 : Int) ≤ (i : Int) := by omega
    have wri : wrap64 ((i : Int) + 1) = (i : Int) + 1 := by unfold wrap64; omega
    clear hb
    by_cases hlt : i < n
    ·obtain ⟨p, hp⟩ : ∃ p, (fns x).2[i]? = some p := ⟨_, List.getElem?_eq_getElem (by rw [HN.out]; exact hlt)⟩
     obtain ⟨q, n', c', u0, u1, e, ⟨c0, c1⟩, fv⟩ := F2.out.at hp
     injection e with e1 e2 e3
     subst e1
     have SW := (S1.out.wf (.inr (.inr (.inl rfl)))).2
     have FI := Lib.hid ((fns_fine x SW TR.out.fit TR.out.shp).2 p (List.mem_of_getElem? hp))
     obtain ⟨ps, bd⟩ := p
     obtain ⟨A9, d9, rfl⟩ : ∃ A c, u0 = .slice A ps.length c := by obtain ⟨A, c, e, -⟩ := fv.1; exact ⟨A, c, e⟩
     obtain ⟨A0, d0, rfl⟩ : ∃ A c, u1 = .slice A bd.len c := by obtain ⟨A, c, e, -⟩ := fv.2; exact ⟨A, c, e⟩
     have KB := Lib.hid (fun (W : World) (b : Below w2.heap.size w2 W) => (⟨cb c0 b, cb c1 b⟩ : W.cell? ⟨q, i * 2, none⟩ = some (.slice A9 ps.length d9) ∧ W.cell? ⟨q, i * 2 + 1, none⟩ = some (.slice A0 bd.len d0)))
     have KV := Lib.hid (fun (W : World) (b : Below w2.heap.size w2 W) => fv.move (⟨b.size, fun p hp _ => World.cell?_of_block (b.block _ (Nat.lt_of_lt_of_le hp LO.out)), fun _ h _ => h⟩ : Moves w2 W _ _))
     have OA := Lib.hid (fun (W : World) (b : Below w2.heap.size w2 W) => outer_any (KV.out W b).1 (KV.out W b).2 FI.out.fit FI.out.ps (Nat.le_trans FI.out.sz TR.out.sz))
     have OR := Lib.hid (fun (W : World) (b : Below w2.heap.size w2 W) => router_any (KV.out W b).1 (KV.out W b).2 (FI.out.wide TR.out.sz))
     have LT := Lib.hid hlt
     have hl1 : (i : Int) < (n : Int) := by omega
     clear hp c0 c1 fv SW hlt hi e2 e3
     have B8 := Lib.hid BL.out.drew
     go_upto_region 10 with fail
     refine wp_region_held_drew (S := fun W => Below w2.heap.size w2 W) (by kernel_rfl) B8.out (fun _ => ?_)
     refine tkB 0 B8.out ?_
     refine tkB 1 B8.out ?_
     refine tkB 2 B8.out ?_
     refine tkB 3 B8.out ?_
     refine tkB 5 B8.out ?_
     refine tkB 6 B8.out ?_
     refine tkB 7 B8.out ?_
     refine tkB 8 B8.out ?_
     refine wpAnyH_ready (rs := [4]) (by kernel_rfl) (by simp) ?_
     refine rdB (fun K hK => ?_) AllReadyH.nil
     rw [if_pos (by rfl)]
     go_wp2_with (go_at_call 13; refine (OA.out _ B8.out).mono ?_; rintro e w3 ⟨⟨v3, rfl, s3⟩, b3⟩; have S3 := Lib.hid s3; have B3 := Lib.hid (B8.out.trans (b3.mono B8.out.size)); clear s3 b3)
     refine hK.out _ _ B3.out (fun _ => ?_)
     clear hK K
     try simp only [Act.put, List.setIfInBounds_toArray, List.set_cons_zero, List.set_cons_succ]
     refine wpAnyH_ready (rs := [9]) (by kernel_rfl) (by simp) ?_
     refine rdB (fun K hK => ?_) AllReadyH.nil
     rw [if_pos (by rfl)]
     go_wp2_with (go_at_call 14; refine (OR.out _ B3.out).mono ?_; rintro e w4 ⟨⟨v4, rfl, s4⟩, l4, b4⟩; have TX := Lib.hid (rtexts_same w4 (S3.out.bel b4) s4 l4); have B4 := Lib.hid (B3.out.trans (b4.mono B3.out.size)); clear s4 b4 l4)
     refine hK.out _ _ B4.out (fun _ => ?_)
     clear hK K
     try simp only [Act.put, List.setIfInBounds_toArray, List.set_cons_zero, List.set_cons_succ]
     refine wpAnyH_ready (rs := [10]) (by kernel_rfl) (by simp) ?_
     refine rdB (fun K hK => ?_) AllReadyH.nil
     rw [if_pos (by rfl)]
     go_wp2_with (go_at_call 12; refine TX.out.mono ?_; rintro e w5 ⟨rfl, b5⟩; have B5 := Lib.hid (B4.out.trans (b5.mono B4.out.size)); clear b5)
     refine hK.out _ _ B5.out (fun _ => ?_)
     clear hK K
     try simp only [Act.put, List.setIfInBounds_toArray, List.set_cons_zero, List.set_cons_succ]
     refine tkB 11 B5.out ?_
     refine wpAnyH_done (by kernel_rfl) ?_ _
     go_wp2_with fail
     refine ⟨⟨i + 1, ?_, LT.out, B5.out⟩, ?_⟩
     ·first | rfl | exact congrArg (Value.int .i64) (wri.trans (by omega))
     ·have := LT.out; simp only [intOf]; omega
    ·have hl1 : ¬ (i : Int) < (n : Int) := by omega
     clear hlt hi
     have Y8 := Lib.hid (Y2.out.trans (BL.out.mono Y2.out.size))
     go_wp2_with (go_at_call 5; refine (TO.out _).mono ?_; rintro e w3 ⟨rfl, b3⟩; have Y3 := Lib.hid (Y8.out.trans (b3.mono Y8.out.size)); clear b3)
     go_ret
     exact ⟨rfl, Y3.out⟩
 ·have q1 : (1500 : Int) < (s.size : Int) := by omega
  clear hs
  go_enter Try.func4, Try.ntmps4
  go_wp2_with (go_at_call 5; refine (TO.out _).mono ?_; rintro e w3 ⟨rfl, b3⟩; have Y3 := Lib.hid b3; clear b3)
  go_ret
  exact ⟨rfl, Y3.out⟩
end Go.Proofs.Yteakhlnnepjhpaa
