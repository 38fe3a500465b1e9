/- LexBlanks: the walk. -/
import Derived.Test.YtikbgkndfmcfhaaDoorLxJ
namespace Go.Proofs.YtikbgkndfmcfhaaDoor
open Go.RowKit
set_option linter.unusedVariables false
/-- uint(p) % uint(n). -/
theorem u_mod (p : Int) (n : Nat) (h : 0 < n) (h2 : n ≤ 1000) : ∃ k : Nat, k < n ∧ wrap64 ((IntKind.u64.wrap p).tmod (n : Int)) = (k : Int) := by
  obtain ⟨N, hN⟩ : ∃ N : Nat, IntKind.u64.wrap p = (N : Int) := ⟨(IntKind.u64.wrap p).toNat, by
    have : 0 ≤ IntKind.u64.wrap p := by rw [IntKind.wrap_u64]; omega
    omega⟩
  refine ⟨N % n, Nat.mod_lt _ h, ?_⟩
  rw [hN, ← Int.ofNat_tmod]
  have : N % n < n := Nat.mod_lt _ h
  unfold wrap64; omega
/-- The blanks that LexBlanks puts in. -/
theorem six (r : Nat) (h : r < ([Value.string { data := #[32] }, Value.string { data := #[9] }, Value.string { data := #[10] }, Value.string { data := #[13] }, Value.string { data := #[32, 45, 45, 120, 10] }, Value.string { data := #[32, 32, 10, 32] }] : List Value).length) : ∃ w : ByteArray, ([Value.string { data := #[32] }, Value.string { data := #[9] }, Value.string { data := #[10] }, Value.string { data := #[13] }, Value.string { data := #[32, 45, 45, 120, 10] }, Value.string { data := #[32, 32, 10, 32] }] : List Value)[r] = .string w ∧ LxM.Blank w.data.toList ∧ w.size ≤ 5 := by
  match r, h with
  | 0, _ => exact ⟨_, rfl, LxM.blank1, by decide⟩
  | 1, _ => exact ⟨_, rfl, LxM.blank2, by decide⟩
  | 2, _ => exact ⟨_, rfl, LxM.blank3, by decide⟩
  | 3, _ => exact ⟨_, rfl, LxM.blank4, by decide⟩
  | 4, _ => exact ⟨_, rfl, LxM.blank5, by decide⟩
  | 5, _ => exact ⟨_, rfl, LxM.blank6, by decide⟩
theorem put_in (s w : ByteArray) (k : Nat) (hk : k ≤ s.size) : (s.extract 0 k ++ w ++ s.extract k s.size).data.toList = s.data.toList.take k ++ (w.data.toList ++ s.data.toList.drop k) := by
  rw [ByteArray.data_append, ByteArray.data_append, Array.toList_append, Array.toList_append, exd, exd, List.append_assoc, List.drop_zero, Nat.sub_zero]
  congr 2
  exact List.take_of_length_le (by rw [List.length_drop]; show s.data.size - k ≤ _; exact Nat.le_refl _)
theorem put_size (s w : ByteArray) (k : Nat) (hk : k ≤ s.size) : (s.extract 0 k ++ w ++ s.extract k s.size).size = s.size + w.size := by
  rw [ByteArray.size_append, ByteArray.size_append, ByteArray.size_extract, ByteArray.size_extract]; omega
/-- The second Lex of LexBlanks. -/
theorem lex_put (W1 : World) (er : Er W1) (s w : ByteArray) (k : Nat) (l : List LxM.T) (hk : k ≤ s.size) (hs : s.size + w.size ≤ 16384) (h : LxM.lex (s.data.toList.take k ++ (w.data.toList ++ s.data.toList.drop k)) = .ok l) :
    Calls Tryd.prog 9 #[.string (s.extract 0 k ++ w ++ s.extract k s.size)] W1 fun e W' => (∃ tv, e = .returned (.tuple #[tv, .int .i64 0, .int .i64 0]) ∧ TList W' tv l) ∧ Below W1.heap.size W1 W' := by
  refine (lex_list W1 _ (by rw [put_size _ _ _ hk]; exact hs) er).mono ?_
  rintro e W' ⟨⟨tv, err, p, rfl, hm⟩, hb⟩
  rw [put_in _ _ _ hk, h] at hm
  obtain ⟨rfl, rfl, hm⟩ := hm
  exact ⟨⟨tv, rfl, hm⟩, hb⟩
set_option maxRecDepth 20000 in
set_option maxHeartbeats 4000000 in
theorem blanks_walk (W : World) (er : Er W) (s : ByteArray) (p q : Int) :
    Calls Tryd.prog 5 #[.string s, .int .i64 p, .int .i64 q] W fun e W' => e = .returned (.bool true) ∧ Below W.heap.size W W' := by
  have TO := Lib.hid (fun W1 (h : Er W1) => told_any W1 h)
  have ER := Lib.hid er
  by_cases hs : s.size ≤ 600
  · have i1 : (s.size : Int) ≤ 600 := by omega
    have d1 : decide (600 < s.size) = false := decide_eq_false (by omega)
    have L1 := Lib.hid (lex_list W s (by omega) er)
    have zs : s.data.toList.length = s.size := by simp
    have C1 := Lib.hid (fun a => lex_count (l := s.data.toList) (a := a))
    have N1 := Lib.hid (fun a => LxM.lexS_ne (n := s.data.toList.length) (l := s.data.toList) (a := a))
    rw [zs] at C1
    have HS := Lib.hid hs
    obtain ⟨FA, hFA⟩ : ∃ F, LxM.lex s.data.toList = F := ⟨_, rfl⟩
    rw [hFA] at L1
    have HFA := Lib.hid hFA
    clear er hs zs hFA
    go_enter Tryd.func5, Tryd.ntmps5
    go_wp2_with fail
    go_at_call 9
    refine L1.out.mono ?_
    rintro e w1 ⟨⟨tva, ea, pa, rfl, ma⟩, b1⟩
    have B1 := Lib.hid b1
    have E1 := Lib.hid (ER.out.below b1 ER.out.two)
    have MA := Lib.hid ma
    clear b1 ma
    cases FA with
    | bad q =>
      obtain ⟨rfl, rfl, rfl⟩ := MA.out
      go_wp2_with (go_at_call 8; refine (TO.out _ E1.out).mono ?_; rintro e w3 ⟨rfl, b3⟩)
      go_ret
      exact ⟨rfl, B1.out.trans (b3.mono B1.out.size)⟩
    | ok a =>
      obtain ⟨rfl, rfl, la⟩ := MA.out
      have na : 0 < a.length := List.length_pos_iff.2 (N1.out a HFA.out)
      have ca := C1.out a HFA.out
      have LA := Lib.hid la
      obtain ⟨A, cA, rfl, -, -⟩ := la.shows
      obtain ⟨-, hA, hcA, tA⟩ := la.tok
      have TA := Lib.hid tA
      obtain ⟨n, en⟩ : ∃ n, a.length = n := ⟨_, rfl⟩
      have EN := Lib.hid en
      rw [en] at na ca hcA ⊢
      have hst := HS.out
      have i3 : (0 : Int) ≤ (n : Int) := by omega
      have i4 : (n : Int) ≤ (cA : Int) := by omega
      have i5 : (0 : Int) < (n : Int) := by omega
      have f1 : ((n : Int) == 0) = false := by simp; omega
      have i7 : (n : Int) ≤ 601 := by omega
      obtain ⟨k, hk, f2⟩ := u_mod p n na (by omega)
      obtain ⟨r, hr, f3⟩ := u_mod q 6 (by omega) (by omega)
      obtain ⟨w, hw, bw, sw⟩ := six r (show r < 6 from hr)
      have BW := Lib.hid (And.intro bw sw)
      have f3 : wrap64 ((IntKind.u64.wrap q).tmod 6) = (r : Int) := f3
      have k0 : (0 : Int) ≤ (k : Int) := by omega
      have k1 : (k : Int) < (n : Int) := by omega
      have r0 : (0 : Int) ≤ (r : Int) := by omega
      have r1 : (r : Int) < 6 := by omega
      have hka : k < a.length := by omega
      obtain ⟨pa, rfl, hpa, tka⟩ := TA.out k hka
      obtain ⟨x, ex⟩ : ∃ x, a[k] = x := ⟨_, rfl⟩
      have hx := LxM.lex_blanks s.data.toList w.data.toList a bw HFA.out k hka
      rw [ex] at tka hx
      rw [show w.data.toList.length = w.size by simp] at hx
      obtain ⟨hx1, hx2⟩ := hx
      rw [show s.data.toList.length = s.size by simp] at hx1
      have HX := Lib.hid hx2
      have LP := Lib.hid (fun W1 (h : Er W1) => lex_put W1 h s w x.at_ _ hx1 (by have := HS.out; omega) hx2)
      have E2 := Lib.hid (E1.out.below (((Below.refl w1.heap.size w1).alloc (Nat.le_refl _) (.cells #[Value.string { data := #[32] }, Value.string { data := #[9] }, Value.string { data := #[10] }, Value.string { data := #[13] }, Value.string { data := #[32, 45, 45, 120, 10] }, Value.string { data := #[32, 32, 10, 32] }] 9)).drew) E1.out.two)
      have A2 := Lib.hid (((Below.refl w1.heap.size w1).alloc (Nat.le_refl _) (.cells #[Value.string { data := #[32] }, Value.string { data := #[9] }, Value.string { data := #[10] }, Value.string { data := #[13] }, Value.string { data := #[32, 45, 45, 120, 10] }, Value.string { data := #[32, 32, 10, 32] }] 9)).drew)
      have x1 : (x.at_ : Int) ≤ (s.size : Int) := by omega
      have c1 : ¬ 9223372036854775807 < min x.at_ s.size + w.size := by have := HS.out; omega
      have c2 : ¬ 9223372036854775807 < min x.at_ s.size + w.size + (s.size - x.at_) := by have := HS.out; omega
      have x0 : (0 : Int) ≤ (x.at_ : Int) := by omega
      obtain ⟨g0, g1, g2, g3⟩ := tka.keep ((Below.refl w1.heap.size w1).alloc (Nat.le_refl _) (.cells #[Value.string { data := #[32] }, Value.string { data := #[9] }, Value.string { data := #[10] }, Value.string { data := #[13] }, Value.string { data := #[32, 45, 45, 120, 10] }, Value.string { data := #[32, 32, 10, 32] }] 9)) (by rw [add_block]; exact hpa)
      clear la tA hA en hcA bw sw ex tka hx2 hx1
      go_wp2_with fail
      go_region_with (refine (LP.out _ E2.out).mono ?_; rintro e w2 ⟨⟨tvb, rfl, lb⟩, b2⟩)
      have AB := Lib.hid (A2.out.trans (b2.mono A2.out.size))
      obtain ⟨B, cB, rfl, -, -⟩ := lb.shows
      obtain ⟨-, hB, hcB, tB⟩ := lb.tok
      have TB := Lib.hid tB
      have elen : (a.take k ++ (a.drop k).map (LxM.mv w.size)).length = n := by
        have := EN.out
        rw [List.length_append, List.length_take, List.length_map, List.length_drop]; omega
      obtain ⟨l, el⟩ : ∃ l, a.take k ++ (a.drop k).map (LxM.mv w.size) = l := ⟨_, rfl⟩
      have EL := Lib.hid el
      rw [el] at elen hcB TB ⊢
      have NL := Lib.hid elen
      rw [elen] at hcB ⊢
      have i8 : (n : Int) ≤ (cB : Int) := by omega
      have f4 : ((n : Int) == (n : Int)) = true := beq_self_eq_true _
      have HKA := Lib.hid hka
      have AT := Lib.hid (lex_at HFA.out)
      clear lb tB hB el elen b2 hcB g0 g1 g2 g3 hka
      go_wp2_with fail
      go_loopw [16, 17] (fun i x wr => ∃ j : Nat, j ≤ n ∧ i = .int .i64 j ∧ Below w2.heap.size w2 wr) (fun i _ _ => n - (intOf i).toNat)
      case atStart => exact ⟨0, Nat.zero_le _, rfl, Below.refl _ _⟩
      case round =>
        obtain ⟨j, hj, rfl, hb⟩ := hrel
        have HB := Lib.hid hb
        have j0 : (0 : Int) ≤ (j : Int) := by omega
        by_cases hlt : j < n
        · have j1 : (j : Int) < (n : Int) := by omega
          have hjl : j < l.length := by rw [NL.out]; exact hlt
          have hja : j < a.length := by rw [EN.out]; exact hlt
          have HB1 := Lib.hid (AB.out.trans (hb.mono AB.out.size))
          obtain ⟨pb, rfl, hpb, tkb⟩ := TB.out j hjl
          obtain ⟨pa', epa, hpa', tka⟩ := TA.out j hja
          obtain rfl := Option.some.inj epa
          have tkb0 := tkb.keep hb (by rw [add_block]; exact hpb)
          have tka := tka.keep HB1.out (by rw [add_block]; exact hpa')
          have ne := run_neq_alike
          obtain ⟨y, ey⟩ : ∃ y, a[j] = y := ⟨_, rfl⟩
          rw [ey] at tka
          obtain ⟨g0, g1, g2, g3⟩ := tka
          have BK0 := Lib.hid (Blk.new wr #[.int .i64 0, .string ⟨#[]⟩, .int .i64 0, .int .i64 0] 31)
          have bk1 := box_row wr #[.int .i64 0, .string ⟨#[]⟩, .int .i64 0, .int .i64 0] (tcs y)
          obtain ⟨⟨y0, y1, y2, y3⟩, -, -, -, z3⟩ := bk1.four
          by_cases hjk : j < k
          · have et : l[j] = y := by
              have h : l[j]? = a[j]? := by
                rw [← EL.out, List.getElem?_append_left (by rw [List.length_take]; have := HKA.out; omega), List.getElem?_take, if_pos hjk]
              rw [List.getElem?_eq_getElem hjl, List.getElem?_eq_getElem hja, ey] at h
              exact Option.some.inj h
            have k3 : (j : Int) < (k : Int) := by omega
            have k4 : ¬ (k : Int) ≤ (j : Int) := by omega
            have BX := Lib.hid (below_row (hb.alloc hb.size (.cells #[.int .i64 0, .string ⟨#[]⟩, .int .i64 0, .int .i64 0] 31)) wr.heap.size hb.size (tcs y))
            have tkc := tkb.keep BX.out (by rw [add_block]; exact hpb)
            rw [et] at tkc
            obtain ⟨e0, e1, e2, e3⟩ := tkc
            clear hb tkb tkb0 hpb hpa' ey et bk1
            go_wp2_with (first
              | (refine wpList_store_row rfl 31 (.tmp 17) (.tmp 90) rfl wr.heap.size (tcs y) rfl rfl 31 _ BK0.out sizeT rfl (one4 _ _ _ _) ?_)
              | (refine wp_store_row 31 (.tmp 17) (.tmp 90) rfl wr.heap.size (tcs y) rfl rfl 31 _ BK0.out sizeT rfl (one4 _ _ _ _) ?_))
            go_region
            go_wp2_with fail
            have jn := joins_next j n hlt
            refine ⟨⟨j + 1, hlt, ?_, BX.out.drew⟩, ?_⟩
            · exact jn.1
            · exact jn.2
          · have hat := AT.out a[j] (List.getElem_mem hja)
            rw [show s.data.toList.length = s.size by simp, ey] at hat
            obtain ⟨v, ev⟩ : ∃ v, v = y.at_ + w.size := ⟨_, rfl⟩
            have et : l[j] = { y with at_ := v } := by
              have h : l[j]? = (a.map (LxM.mv w.size))[j]? := by
                have lt : (a.take k).length = k := by rw [List.length_take]; have := HKA.out; omega
                rw [← EL.out, List.getElem?_append_right (by rw [lt]; omega), lt, List.getElem?_map, List.getElem?_map, List.getElem?_drop]
                congr 2
                omega
              rw [List.getElem?_eq_getElem hjl, List.getElem?_map, List.getElem?_eq_getElem hja, ey] at h
              have h := Option.some.inj h
              rw [h]
              unfold LxM.mv; rw [ev]
            have k3 : ¬ (j : Int) < (k : Int) := by omega
            have k4 : (k : Int) ≤ (j : Int) := by omega
            have v1 : (y.at_ : Int) + (w.size : Int) = (v : Int) := by omega
            have v0 : (0 : Int) ≤ (v : Int) := by omega
            have v2 : (v : Int) ≤ 605 := by have := BW.out.2; have := HS.out; omega
            have bk2 := box_set bk1 (.int .i64 (v : Int))
            obtain ⟨⟨m0, m1, m2, m3⟩, -, -, -, -⟩ := bk2.four
            have BX := Lib.hid (box_below hb hb.size #[.int .i64 0, .string ⟨#[]⟩, .int .i64 0, .int .i64 0] (tcs y) 31 (.int .i64 (v : Int)))
            have tkc := tkb.keep BX.out (by rw [add_block]; exact hpb)
            rw [et] at tkc
            obtain ⟨e0, e1, e2, e3⟩ := tkc
            clear hb tkb tkb0 hpb hpa' ey et bk1 bk2 ev hat
            go_wp2_with (first
              | (refine wpList_store_row rfl 31 (.tmp 17) (.tmp 90) rfl wr.heap.size (tcs y) rfl rfl 31 _ BK0.out sizeT rfl (one4 _ _ _ _) ?_)
              | (refine wp_store_row 31 (.tmp 17) (.tmp 90) rfl wr.heap.size (tcs y) rfl rfl 31 _ BK0.out sizeT rfl (one4 _ _ _ _) ?_))
            go_region
            go_wp2_with fail
            have jn := joins_next j n hlt
            refine ⟨⟨j + 1, hlt, ?_, BX.out.drew⟩, ?_⟩
            · exact jn.1
            · exact jn.2
        · have j1 : (n : Int) ≤ (j : Int) := by omega
          clear hb
          have E4 := Lib.hid (E1.out.below (AB.out.trans (HB.out.mono AB.out.size)) E1.out.two)
          go_wp2_with (go_at_call 8; refine (TO.out _ E4.out).mono ?_; rintro e w5 ⟨rfl, b5⟩)
          go_ret
          exact ⟨rfl, B1.out.trans (((AB.out.trans (HB.out.mono AB.out.size)).trans (b5.mono (AB.out.trans (HB.out.mono AB.out.size)).size)).mono B1.out.size)⟩
  · have i1 : (600 : Int) < (s.size : Int) := by omega
    have d1 : decide (600 < s.size) = true := decide_eq_true (by omega)
    clear er hs
    go_enter Tryd.func5, Tryd.ntmps5
    go_wp2_with (go_at_call 8; refine (TO.out _ ER.out).mono ?_; rintro e w3 ⟨rfl, b3⟩)
    go_ret
    exact ⟨rfl, b3⟩
end Go.Proofs.YtikbgkndfmcfhaaDoor
