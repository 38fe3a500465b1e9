/- The walk of ValueOrder. -/
import Derived.Test.YtgokjdlemfaagaaVlFin
namespace Go.Proofs.Ytgokjdlemfaagaa
open Go.RowKit
set_option linter.unusedVariables false
theorem pair_at (W : World) (b : Nat) (x y : Value) (t : TypeId) (hb : W.heap.size = b) : ∀ j u, [x, y][j]? = some u → (W.alloc (.cells #[x, y] t)).cell? ((⟨b, 0, none⟩ : Addr).add j) = some u := by
  subst hb
  exact pair_new W x y t
/-- The name of one letter that a number stands for. -/
def nm (x : Int) : ByteArray := ⟨#[UInt8.ofNat ((97 + (IntKind.u64.wrap x).tmod 26) % 256).toNat]⟩
theorem nm_size (x : Int) : (nm x).size = 1 := rfl
theorem nm_conv (W : World) (x : Int) : (convert 31 9 (.slice (some ⟨W.heap.size, 0, none⟩) 1 1)).run Try.prog (W.alloc (.cells #[.int .u8 ((97 + (IntKind.u64.wrap x).tmod 26) % 256)] 5)) = .ok (.string (nm x)) (W.alloc (.cells #[.int .u8 ((97 + (IntKind.u64.wrap x).tmod 26) % 256)] 5)) := by
  have e : ((97 + (IntKind.u64.wrap x).tmod 26) % 256 : Int) = ((UInt8.ofNat ((97 + (IntKind.u64.wrap x).tmod 26) % 256).toNat).toNat : Int) := by
    generalize (97 + (IntKind.u64.wrap x).tmod 26) = y
    rw [UInt8.toNat_ofNat']
    omega
  exact convert_n 1 1 (l := [UInt8.ofNat ((97 + (IntKind.u64.wrap x).tmod 26) % 256).toNat]) rfl (Bs.new W _ _ _ _ (congrArg (fun z => #[Value.int .u8 z]) e))
theorem row_n {W : World} {base e size n m : Nat} {v : Value} {xs : List Value} (h : W.ownsRow base e size v n xs) (hn : n = m) : W.ownsRow base e size v m xs := hn ▸ h
theorem one_ss (x y : ByteArray) : ∀ u ∈ [Value.string x, Value.string y], u.oneCell' = true := by intro u h; simp at h; rcases h with rfl | rfl <;> rfl
theorem one_si (x : ByteArray) (y : Int) : ∀ u ∈ [Value.string x, Value.int .i64 y], u.oneCell' = true := by intro u h; simp at h; rcases h with rfl | rfl <;> rfl
theorem one_sc (x : ByteArray) : ∀ u ∈ [Value.string x, Value.complex .f64 0 0], u.oneCell' = true := by intro u h; simp at h; rcases h with rfl | rfl <;> rfl
/-- The law's loop, between two rounds. -/
def OL (w W : World) (n : Nat) (ns : List ByteArray) (k : Nat) (r : Bool) : Prop := ∃ vh vs vp, OB w W vh vs vp ∧ OR w W vh vs vp (ns.take k) (ns.take k) (ns.take k) ∧ r = Vl.rise (ns.take k)
theorem start_ob (w : World) : OB w (((w.alloc (.cells (hcs (.slice none 0 0)) 29)).alloc (.cells (scs (.slice none 0 0)) 29)).alloc (.cells (pcs (.slice none 0 0)) 29)) (.slice none 0 0) (.slice none 0 0) (.slice none 0 0) where
  below := (((Below.refl _ w).alloc (Nat.le_refl _) _).alloc (by simp) _).alloc (by simp; omega) _
  room := by simp
  a := ((Blk.new w _ _).below ((Below.refl _ _).alloc (Nat.le_refl _) _)).below ((Below.refl _ _).alloc (Nat.le_refl _) _)
  b := by
    have := (Blk.new (w.alloc (.cells (hcs (.slice none 0 0)) 29)) (scs (.slice none 0 0)) 29).below ((Below.refl _ _).alloc (Nat.le_refl _) (.cells (pcs (.slice none 0 0)) 29))
    rw [World.size_alloc] at this
    exact this
  c := by
    have := Blk.new ((w.alloc (.cells (hcs (.slice none 0 0)) 29)).alloc (.cells (scs (.slice none 0 0)) 29)) (pcs (.slice none 0 0)) 29
    rw [World.size_alloc, World.size_alloc] at this
    exact this
theorem start_or (w : World) {W : World} : OR w W (.slice none 0 0) (.slice none 0 0) (.slice none 0 0) [] [] [] := ⟨World.ownsRow_nil _ _ _ _, World.ownsRow_nil _ _ _ _, World.ownsRow_nil _ _ _ _⟩
theorem prev_cell {W : World} {base n c g m : Nat} {xs : List Value} {u : Value} (h : W.ownsRow base 33 2 (.slice (some ⟨g, 0, none⟩) n c) n xs) (hx : xs[m * 2]? = some u) : W.cell? ⟨g, m * 2, none⟩ = some u := by
  have := World.ownsRow.cells h (g := g) rfl (m * 2) u hx
  rw [Addr.add_lit, Nat.zero_add] at this
  exact this
theorem prev_ne {W w : World} {e size n c g : Nat} {xs : List Value} (h : W.ownsRow (w.heap.size + 3) e size (.slice (some ⟨g, 0, none⟩) n c) n xs) : g ≠ w.heap.size + 1 + 1 := by
  have := row_base h g rfl
  omega
theorem prev_all {w w3 : World} {V3 vs vp : Value} {k gF cF : Nat} {lh lz lp : List ByteArray} {b : ByteArray} (R : OR w (w3.setCell ⟨w.heap.size + 1 + 1, 5, none⟩ V3) (.slice (some ⟨gF, 0, none⟩) (k + 1) cF) vs vp lh lz lp) (hn : lh.length = k + 1) (hx : (fcells (hl lh))[(k - 1) * 2]? = some (.string b)) :
    w3.cell? ⟨gF, (k - 1) * 2, none⟩ = some (.string b) ∧ ∀ v, (w3.setCell ⟨w.heap.size + 1 + 1, 5, none⟩ v).cell? ⟨gF, (k - 1) * 2, none⟩ = w3.cell? ⟨gF, (k - 1) * 2, none⟩ := by
  have gg : gF ≠ w.heap.size + 1 + 1 := prev_ne (row_n R.h hn)
  have ev := fun v => World.cell?_setCell_other w3 ⟨w.heap.size + 1 + 1, 5, none⟩ ⟨gF, (k - 1) * 2, none⟩ v (fun e => gg (congrArg Addr.block e).symm)
  have := prev_cell (row_n R.h hn) hx
  rw [ev V3] at this
  exact ⟨this, ev⟩
theorem name_at (ns : List ByteArray) (m : Nat) (b : ByteArray) (h : ns[m]? = some b) : (fcells (hl ns))[m * 2]? = some (.string b) := by
  obtain ⟨hm, rfl⟩ := List.getElem?_eq_some_iff.1 h
  have := (cells2_at (f := fun a : ByteArray × ByteArray => Value.string a.1) (g := fun a => Value.string a.2) (hl ns) m (by simpa [hl] using hm)).1
  rw [show fcells (hl ns) = cells2 (fun a => Value.string a.1) (fun a => Value.string a.2) (hl ns) from rfl, this]
  simp [hl]
set_option maxRecDepth 20000 in
set_option maxHeartbeats 4000000 in
theorem order_walk (w : World) (A : Option Addr) (c n : Nat) (l : List Int) (hn : l.length = n) (h2 : 2 ≤ n) (h12 : n ≤ 12) (hr : Row w A (l.map (Value.int .i64))) :
    Calls Try.prog 3 #[.slice A n c] w fun e w' => e = .returned (.bool true) ∧ Below w.heap.size w w' := by
  have HR := Lib.hid hr
  have HN := Lib.hid hn
  have n2 : (2 : Int) ≤ (n : Int) := by omega
  have n12 : (n : Int) ≤ 12 := by omega
  obtain ⟨iF, hiF, hzF, h1F, h2F⟩ := info_parts infoF
  obtain ⟨iE, hiE, hzE, h1E, h2E⟩ := info_parts infoE
  obtain ⟨iP, hiP, hzP, h1P, h2P⟩ := info_parts infoP
  have H2 := Lib.hid h2
  clear hr hn h2 h12
  go_enter Try.func3, Try.ntmps3
  go_wp2_with fail
  go_loopw [6, 7] (fun r i wr => ∃ k : Nat, k ≤ n ∧ i = .int .i64 k ∧ ∃ rr, r = .bool rr ∧ OL w wr n (l.map nm) k rr) (fun _ i _ => n - (intOf i).toNat)
  case atStart => exact ⟨0, Nat.zero_le _, rfl, true, rfl, .slice none 0 0, .slice none 0 0, .slice none 0 0, start_ob w, start_or w, rfl⟩
  case round =>
    obtain ⟨k, hk, rfl, rr, rfl, vh, vs, vp, ob, or, hrr⟩ := hrel
    have B0 := Lib.hid ob
    have R0 := Lib.hid or
    have k0 : (0 : Int) ≤ (k : Int) := by omega
    by_cases hlt : k < n
    · have k1 : (k : Int) < (n : Int) := by omega
      have KN : Hid (k + 1 ≤ 1000) := by show k + 1 ≤ 1000; omega
      have LEN : Hid (((l.map nm).take k).length = k) := by
        show ((l.map nm).take k).length = k
        rw [List.length_take, List.length_map, HN.out]; omega
      obtain ⟨p, rfl, hp, hc⟩ := HR.out.at_ k (by rw [HN.out]; exact hlt)
      have hc' : wr.cell? (p.add k) = some (.int .i64 (l[k]'(by rw [HN.out]; exact hlt))) := (ob.below.cell (by rw [add_block]; exact hp)).trans hc
      have tk := Lib.hid (take_more (l.map nm) k (by rw [List.length_map, HN.out]; exact hlt))
      rw [List.getElem_map] at tk
      obtain ⟨x, hx⟩ : ∃ x, l[k]'(by rw [HN.out]; exact hlt) = x := ⟨_, rfl⟩
      rw [hx] at hc' tk
      have kv := nm_conv wr x
      have NS := Lib.hid (nm_size x)
      obtain ⟨s, hs⟩ : ∃ s, nm x = s := ⟨_, rfl⟩
      rw [hs] at kv tk NS
      obtain ⟨ns, hns⟩ : ∃ ns, (l.map nm).take k = ns := ⟨_, rfl⟩
      simp only [hns] at R0 LEN tk hrr
      obtain ⟨x3, y4, z5, f3, f4, f5⟩ := ob.cells
      have la := ob.a.lt
      have lb := ob.b.lt
      have lc := ob.c.lt
      have RR := Lib.hid hrr
      clear hc hx ob or hs hns hrr
      by_cases kz : k = 0
      · have nn : Hid (ns = []) := List.eq_nil_of_length_eq_zero (LEN.out.trans kz)
        have kz1 : ((k : Int) == 0) = true := by rw [kz]; rfl
        clear kz
        obtain rfl : rr = true := by rw [RR.out, nn.out]; rfl

        go_wp2_with (first
          | (at_builtin; (refine wpList_append_own_at _ rfl (.tmp 38) (.tmp 41) 25 rfl (w.heap.size + 3) 33 iF _ 2 32 Try.underlying25 hiF hzF h1F h2F rfl (by decide) _ k _ rfl (row_n ((R0.out.alloc _).alloc _).h LEN.out) ⟨_, 0, none⟩ 1 1 [.string s, .string ⟨#[]⟩] rfl rfl (pair_at _ _ _ _ _ (by simp)) (one_ss _ _) (by have := KN.out; unfold maxLen; omega) (by have := KN.out; omega) ((B0.out.alloc _).alloc _).room ?_); intro v1 w1 own1 g1 _ _; obtain ⟨gF, cF, rfl⟩ := ownsRow_succ own1; have B1 := OB.grown ((B0.out.alloc _).alloc _) g1 (row_base R0.out.h); obtain ⟨x3, y4, z5, f3, f4, f5⟩ := B1.cells; have la := B1.a.lt; have lb := B1.b.lt; have lc := B1.c.lt; have R1 := Lib.hid (((R0.out.alloc _).alloc _).putH (row_n own1 (by rw [LEN.out])) g1); have C1 := Lib.hid (B1.putH (.slice (some ⟨gF, 0, none⟩) (k + 1) cF)); clear B1 own1 g1)
          | (at_builtin; (refine wpList_append_own_at _ rfl (.tmp 45) (.tmp 48) 26 rfl (w.heap.size + 3) 35 iE _ 2 24 Try.underlying26 hiE hzE h1E h2E rfl (by decide) _ k _ rfl (row_n (R1.out.alloc _).s LEN.out) ⟨_, 0, none⟩ 1 1 [.string s, .int .i64 7] rfl rfl (pair_at _ _ _ _ _ (by simp)) (one_si _ _) (by have := KN.out; unfold maxLen; omega) (by have := KN.out; omega) (C1.out.alloc _).room ?_); intro v2 w2 own2 g2 _ _; obtain ⟨gE, cE, rfl⟩ := ownsRow_succ own2; have B2 := OB.grown (C1.out.alloc _) g2 (row_base R1.out.s); obtain ⟨x3, y4, z5, f3, f4, f5⟩ := B2.cells; have la := B2.a.lt; have lb := B2.b.lt; have lc := B2.c.lt; have R2 := Lib.hid ((R1.out.alloc _).putS (row_n own2 (by rw [LEN.out])) g2); have C2 := Lib.hid (B2.putS (.slice (some ⟨gE, 0, none⟩) (k + 1) cE)); clear B2 own2 g2)
          | (at_builtin; (refine wpList_append_own_at _ rfl (.tmp 52) (.tmp 55) 27 rfl (w.heap.size + 3) 38 iP _ 2 32 Try.underlying27 hiP hzP h1P h2P rfl (by decide) _ k _ rfl (row_n (R2.out.alloc _).p LEN.out) ⟨_, 0, none⟩ 1 1 [.string s, .complex .f64 0 0] rfl rfl (pair_at _ _ _ _ _ (by simp)) (one_sc _) (by have := KN.out; unfold maxLen; omega) (by have := KN.out; omega) (C2.out.alloc _).room ?_); intro v3 w3 own3 g3 _ _; obtain ⟨gP, cP, rfl⟩ := ownsRow_succ own3; have B3 := OB.grown (C2.out.alloc _) g3 (row_base R2.out.p); obtain ⟨x3, y4, z5, f3, f4, f5⟩ := B3.cells; have la := B3.a.lt; have lb := B3.b.lt; have lc := B3.c.lt; have R3 := Lib.hid ((R2.out.alloc _).putP (row_n own3 (by rw [LEN.out])) g3); have C3 := Lib.hid (B3.putP (.slice (some ⟨gP, 0, none⟩) (k + 1) cP)); clear B3 own3 g3))
        exact ⟨⟨k + 1, hlt, by go_num, _, rfl, _, _, _, C3.out, by rw [tk.out]; exact R3.out, by rw [tk.out, nn.out]; rfl⟩, by simp [intOf]; omega⟩

      · obtain ⟨m, hm⟩ : ∃ m, k = m + 1 := ⟨k - 1, by omega⟩
        have kz' : ((k : Int) == 0) = false := beq_eq_false_iff_ne.2 (by omega)
        have m0 : (0 : Int) ≤ (m : Int) := by omega
        have m1 : (m : Int) < (k : Int) + 1 := by omega
        obtain ⟨ini, b, hib⟩ : ∃ ini b, ns = ini ++ [b] := ⟨ns.dropLast, ns.getLast (by intro h; have := LEN.out; rw [h] at this; simp at this; omega), (List.dropLast_concat_getLast _).symm⟩
        have IB := Lib.hid hib
        have PB : Hid ((fcells (hl (ns ++ [s])))[(k - 1) * 2]? = some (.string b)) := name_at _ (k - 1) b (by
          have h1 := LEN.out
          rw [hib] at h1 ⊢
          simp at h1
          have : ini.length = k - 1 := by omega
          rw [← this]
          simp)
        have kz2 : ¬ (k : Int) = 0 := by omega
        have HM := Lib.hid hm
        have LENS : Hid ((ns ++ [s]).length = k + 1) := by
          show (ns ++ [s]).length = k + 1
          rw [List.length_append, LEN.out, List.length_singleton]
        clear hm hib kz
        cases rr

        · have e0 : Vl.rise ns = false := RR.out.symm
          go_wp2_with (first
            | (at_builtin; (refine wpList_append_own_at _ rfl (.tmp 38) (.tmp 41) 25 rfl (w.heap.size + 3) 33 iF _ 2 32 Try.underlying25 hiF hzF h1F h2F rfl (by decide) _ k _ rfl (row_n ((R0.out.alloc _).alloc _).h LEN.out) ⟨_, 0, none⟩ 1 1 [.string s, .string ⟨#[]⟩] rfl rfl (pair_at _ _ _ _ _ (by simp)) (one_ss _ _) (by have := KN.out; unfold maxLen; omega) (by have := KN.out; omega) ((B0.out.alloc _).alloc _).room ?_); intro v1 w1 own1 g1 _ _; obtain ⟨gF, cF, rfl⟩ := ownsRow_succ own1; have B1 := OB.grown ((B0.out.alloc _).alloc _) g1 (row_base R0.out.h); obtain ⟨x3, y4, z5, f3, f4, f5⟩ := B1.cells; have la := B1.a.lt; have lb := B1.b.lt; have lc := B1.c.lt; have R1 := Lib.hid (((R0.out.alloc _).alloc _).putH (row_n own1 (by rw [LEN.out])) g1); have C1 := Lib.hid (B1.putH (.slice (some ⟨gF, 0, none⟩) (k + 1) cF)); clear B1 own1 g1)
            | (at_builtin; (refine wpList_append_own_at _ rfl (.tmp 45) (.tmp 48) 26 rfl (w.heap.size + 3) 35 iE _ 2 24 Try.underlying26 hiE hzE h1E h2E rfl (by decide) _ k _ rfl (row_n (R1.out.alloc _).s LEN.out) ⟨_, 0, none⟩ 1 1 [.string s, .int .i64 7] rfl rfl (pair_at _ _ _ _ _ (by simp)) (one_si _ _) (by have := KN.out; unfold maxLen; omega) (by have := KN.out; omega) (C1.out.alloc _).room ?_); intro v2 w2 own2 g2 _ _; obtain ⟨gE, cE, rfl⟩ := ownsRow_succ own2; have B2 := OB.grown (C1.out.alloc _) g2 (row_base R1.out.s); obtain ⟨x3, y4, z5, f3, f4, f5⟩ := B2.cells; have la := B2.a.lt; have lb := B2.b.lt; have lc := B2.c.lt; have R2 := Lib.hid ((R1.out.alloc _).putS (row_n own2 (by rw [LEN.out])) g2); have C2 := Lib.hid (B2.putS (.slice (some ⟨gE, 0, none⟩) (k + 1) cE)); clear B2 own2 g2)
            | (at_builtin; (refine wpList_append_own_at _ rfl (.tmp 52) (.tmp 55) 27 rfl (w.heap.size + 3) 38 iP _ 2 32 Try.underlying27 hiP hzP h1P h2P rfl (by decide) _ k _ rfl (row_n (R2.out.alloc _).p LEN.out) ⟨_, 0, none⟩ 1 1 [.string s, .complex .f64 0 0] rfl rfl (pair_at _ _ _ _ _ (by simp)) (one_sc _) (by have := KN.out; unfold maxLen; omega) (by have := KN.out; omega) (C2.out.alloc _).room ?_); intro v3 w3 own3 g3 _ _; obtain ⟨gP, cP, rfl⟩ := ownsRow_succ own3; have B3 := OB.grown (C2.out.alloc _) g3 (row_base R2.out.p); obtain ⟨x3, y4, z5, f3, f4, f5⟩ := B3.cells; have la := B3.a.lt; have lb := B3.b.lt; have lc := B3.c.lt; have R3 := Lib.hid ((R2.out.alloc _).putP (row_n own3 (by rw [LEN.out])) g3); have C3 := Lib.hid (B3.putP (.slice (some ⟨gP, 0, none⟩) (k + 1) cP)); clear B3 own3 g3))
          exact ⟨⟨k + 1, hlt, by go_num, _, rfl, _, _, _, C3.out, by rw [tk.out]; exact R3.out, by rw [tk.out]; exact (rise_prefix (List.prefix_append _ _) RR.out.symm).symm⟩, by simp [intOf]; omega⟩

        · obtain ⟨q, hq⟩ : ∃ q, Op.bytesLess b.toList s.toList = q := ⟨_, rfl⟩
          have QQ := Lib.hid hq
          go_wp2_with (first
            | (at_builtin; (refine wpList_append_own_at _ rfl (.tmp 38) (.tmp 41) 25 rfl (w.heap.size + 3) 33 iF _ 2 32 Try.underlying25 hiF hzF h1F h2F rfl (by decide) _ k _ rfl (row_n ((R0.out.alloc _).alloc _).h LEN.out) ⟨_, 0, none⟩ 1 1 [.string s, .string ⟨#[]⟩] rfl rfl (pair_at _ _ _ _ _ (by simp)) (one_ss _ _) (by have := KN.out; unfold maxLen; omega) (by have := KN.out; omega) ((B0.out.alloc _).alloc _).room ?_); intro v1 w1 own1 g1 _ _; obtain ⟨gF, cF, rfl⟩ := ownsRow_succ own1; have B1 := OB.grown ((B0.out.alloc _).alloc _) g1 (row_base R0.out.h); obtain ⟨x3, y4, z5, f3, f4, f5⟩ := B1.cells; have la := B1.a.lt; have lb := B1.b.lt; have lc := B1.c.lt; have R1 := Lib.hid (((R0.out.alloc _).alloc _).putH (row_n own1 (by rw [LEN.out])) g1); have C1 := Lib.hid (B1.putH (.slice (some ⟨gF, 0, none⟩) (k + 1) cF)); clear B1 own1 g1)
            | (at_builtin; (refine wpList_append_own_at _ rfl (.tmp 45) (.tmp 48) 26 rfl (w.heap.size + 3) 35 iE _ 2 24 Try.underlying26 hiE hzE h1E h2E rfl (by decide) _ k _ rfl (row_n (R1.out.alloc _).s LEN.out) ⟨_, 0, none⟩ 1 1 [.string s, .int .i64 7] rfl rfl (pair_at _ _ _ _ _ (by simp)) (one_si _ _) (by have := KN.out; unfold maxLen; omega) (by have := KN.out; omega) (C1.out.alloc _).room ?_); intro v2 w2 own2 g2 _ _; obtain ⟨gE, cE, rfl⟩ := ownsRow_succ own2; have B2 := OB.grown (C1.out.alloc _) g2 (row_base R1.out.s); obtain ⟨x3, y4, z5, f3, f4, f5⟩ := B2.cells; have la := B2.a.lt; have lb := B2.b.lt; have lc := B2.c.lt; have R2 := Lib.hid ((R1.out.alloc _).putS (row_n own2 (by rw [LEN.out])) g2); have C2 := Lib.hid (B2.putS (.slice (some ⟨gE, 0, none⟩) (k + 1) cE)); clear B2 own2 g2)
            | (at_builtin; (refine wpList_append_own_at _ rfl (.tmp 52) (.tmp 55) 27 rfl (w.heap.size + 3) 38 iP _ 2 32 Try.underlying27 hiP hzP h1P h2P rfl (by decide) _ k _ rfl (row_n (R2.out.alloc _).p LEN.out) ⟨_, 0, none⟩ 1 1 [.string s, .complex .f64 0 0] rfl rfl (pair_at _ _ _ _ _ (by simp)) (one_sc _) (by have := KN.out; unfold maxLen; omega) (by have := KN.out; omega) (C2.out.alloc _).room ?_); intro v3 w3 own3 g3 _ _; obtain ⟨gP, cP, rfl⟩ := ownsRow_succ own3; have B3 := OB.grown (C2.out.alloc _) g3 (row_base R2.out.p); obtain ⟨x3, y4, z5, f3, f4, f5⟩ := B3.cells; have la := B3.a.lt; have lb := B3.b.lt; have lc := B3.c.lt; have R3 := Lib.hid ((R2.out.alloc _).putP (row_n own3 (by rw [LEN.out])) g3); have C3 := Lib.hid (B3.putP (.slice (some ⟨gP, 0, none⟩) (k + 1) cP)); obtain ⟨pv, ev⟩ := prev_all R3.out LENS.out PB.out; clear B3 own3 g3))
          exact ⟨⟨k + 1, hlt, by go_num, _, rfl, _, _, _, C3.out, by rw [tk.out]; exact R3.out, by rw [tk.out, IB.out, rise_snoc, ← IB.out, ← RR.out, le_not, QQ.out]; rfl⟩, by simp [intOf]; omega⟩

    · have e : k = n := by omega
      subst e
      have LEN : Hid (((l.map nm).take k).length = k) := by
        show ((l.map nm).take k).length = k
        rw [List.length_take, List.length_map, HN.out]; omega
      have ON : Hid (Ones ((l.map nm).take k)) := fun s hs => by
        obtain ⟨x, _, rfl⟩ := List.mem_map.1 (List.mem_of_mem_take hs)
        exact nm_size x
      obtain ⟨ns, hns⟩ : ∃ ns, (l.map nm).take k = ns := ⟨_, rfl⟩
      simp only [hns] at R0 LEN ON hrr
      have k2 : 2 ≤ k := H2.out
      have n1 : 1 ≤ ns.length := by have := LEN.out; omega
      have n12 : ns.length ≤ 12 := by have := LEN.out; omega
      have MH := fun W (b : Below wr.heap.size wr W) => may_any (fun _ => true) W wr.heap.size _ (xh ns) ((vr_h R0.out n1).below b) (ok_h ON.out n12) b.size
      have MS := fun W (b : Below wr.heap.size wr W) => may_any (fun _ => true) W wr.heap.size _ (xs ns) ((vr_s R0.out n1).below b) (ok_s ON.out n12) b.size
      have MP := fun W (b : Below wr.heap.size wr W) => may_any (fun _ => true) W wr.heap.size _ (xp ns) ((vr_p R0.out n1).below b) (ok_p ON.out n12) b.size
      have LH := fun W (b : Below wr.heap.size wr W) => len_any W wr.heap.size _ (xh ns) ((vr_h R0.out n1).below b)
      have SS := fun W (b : Below wr.heap.size wr W) => size_any W wr.heap.size _ (xs ns) ((vr_s R0.out n1).below b) (.inr rfl) b.size (ok_s ON.out n12).list (ok_s ON.out n12).fields (ok_s ON.out n12).scores (ok_s ON.out n12).points (ok_s ON.out n12).size
      rw [may_h _ ON.out n1 n12] at MH
      rw [may_s _ ON.out n1 n12] at MS
      rw [may_p _ rfl ON.out n1 n12] at MP
      have lh : (xh ns).len = k := by have := LEN.out; simpa [Vl.len, xh, hl] using this
      rw [lh] at LH
      rw [size_s ON.out, LEN.out] at SS
      rw [← hrr] at MH MS MP
      obtain ⟨gF, cF, e1, -, -⟩ := row_shape (row_n R0.out.h LEN.out) (by omega)
      obtain ⟨gE, cE, e2, -, -⟩ := row_shape (row_n R0.out.s LEN.out) (by omega)
      obtain ⟨gP, cP, e3, -, -⟩ := row_shape (row_n R0.out.p LEN.out) (by omega)
      subst e1 e2 e3
      unfold hcs at MH LH
      unfold scs at MS SS
      unfold pcs at MP
      have sv : (((16 + 17 * k : Nat) : Int)) = 16 + 17 * (k : Int) := by omega
      rw [sv] at SS
      have m1 : wrap64 (17 * (k : Int)) = 17 * (k : Int) := by unfold wrap64; omega
      have m2 : wrap64 (16 + 17 * (k : Int)) = 16 + 17 * (k : Int) := by clear m1; unfold wrap64; omega
      have OBB := Lib.hid ob.below
      clear R0 or ob hns hrr lh sv HR n1 n12 k2 ON
      go_wp2_with fail
      go_at_call 5
      refine (tri_call B0.out (Below.refl _ _) (told_any wr)).mono ?_
      rintro e w1 ⟨rfl, t1, ⟨a0, a1, a2, a3, a4, a5⟩, ⟨b0, b1, b2, b3, b4, b5⟩, ⟨d0, d1, d2, d3, d4, d5⟩⟩
      go_wp2_with fail
      go_at_call 6
      refine (tri_call B0.out t1 (MH w1 t1)).mono ?_
      rintro e w2 ⟨rfl, t2, ⟨a0, a1, a2, a3, a4, a5⟩, ⟨b0, b1, b2, b3, b4, b5⟩, ⟨d0, d1, d2, d3, d4, d5⟩⟩
      go_wp2_with fail
      go_at_call 6
      refine (tri_call B0.out t2 (MS w2 t2)).mono ?_
      rintro e w3 ⟨rfl, t3, ⟨a0, a1, a2, a3, a4, a5⟩, ⟨b0, b1, b2, b3, b4, b5⟩, ⟨d0, d1, d2, d3, d4, d5⟩⟩
      go_wp2_with fail
      go_at_call 6
      refine (tri_call B0.out t3 (MP w3 t3)).mono ?_
      rintro e w4 ⟨rfl, t4, ⟨a0, a1, a2, a3, a4, a5⟩, ⟨b0, b1, b2, b3, b4, b5⟩, ⟨d0, d1, d2, d3, d4, d5⟩⟩
      go_wp2_with fail
      go_at_call 7
      refine (tri_call B0.out t4 (LH w4 t4)).mono ?_
      rintro e w5 ⟨rfl, t5, ⟨a0, a1, a2, a3, a4, a5⟩, ⟨b0, b1, b2, b3, b4, b5⟩, ⟨d0, d1, d2, d3, d4, d5⟩⟩
      go_wp2_with fail
      go_at_call 8
      refine (tri_call B0.out t5 (SS w5 t5)).mono ?_
      rintro e w6 ⟨rfl, t6, ⟨a0, a1, a2, a3, a4, a5⟩, ⟨b0, b1, b2, b3, b4, b5⟩, ⟨d0, d1, d2, d3, d4, d5⟩⟩
      go_wp2_with fail
      go_ret
      exact ⟨by simp, OBB.out.trans (t6.mono OBB.out.size)⟩
theorem order_long (w : World) (A : Option Addr) (c n : Nat) (h : ¬ (2 ≤ n ∧ n ≤ 12)) :
    Calls Try.prog 3 #[.slice A n c] w fun e w' => e = .returned (.bool true) ∧ Below w.heap.size w w' := by
  have T := told_any
  by_cases h1 : n < 2
  · have h2 : (n : Int) < 2 := by omega
    go_enter Try.func3, Try.ntmps3
    go_wp2_with (go_at_call 5; refine (T _).mono ?_; rintro e w' ⟨rfl, hb⟩)
    go_ret
    exact ⟨rfl, hb⟩
  · have h2 : (2 : Int) ≤ (n : Int) := by omega
    have h3 : 12 < (n : Int) := by omega
    go_enter Try.func3, Try.ntmps3
    go_wp2_with (go_at_call 5; refine (T _).mono ?_; rintro e w' ⟨rfl, hb⟩)
    go_ret
    exact ⟨rfl, hb⟩
end Go.Proofs.Ytgokjdlemfaagaa
