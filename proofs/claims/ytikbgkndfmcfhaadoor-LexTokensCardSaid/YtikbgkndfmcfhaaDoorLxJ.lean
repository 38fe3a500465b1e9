/- LexJoins: the walk. -/
import Derived.Test.YtikbgkndfmcfhaaDoorLxS
import Derived.Test.YtikbgkndfmcfhaaDoorLxP2
import Derived.Test.YtikbgkndfmcfhaaDoorLxTold
namespace Go.Proofs.YtikbgkndfmcfhaaDoor
open Go.RowKit
set_option linter.unusedVariables false
/-- What Lex returns, as a list that reads as tokens. -/
theorem lex_list (W : World) (s : ByteArray) (hs : s.size ≤ 16384) (er : Er W) :
    Calls Tryd.prog 9 #[.string s] W fun e W' => (∃ tv err p, e = .returned (.tuple #[tv, .int .i64 err, .int .i64 p]) ∧
      match LxM.lex s.data.toList with
      | .ok l => err = 0 ∧ p = 0 ∧ TList W' tv l
      | .bad q => err = 14 ∧ p = (q : Int) ∧ tv = .slice none 0 0) ∧ Below W.heap.size W W' := by
  refine (lex_any W s hs er).mono ?_
  rintro e W' ⟨⟨tv, err, p, rfl, hm⟩, hb⟩
  refine ⟨⟨tv, err, p, rfl, ?_⟩, hb⟩
  cases h : LxM.lex s.data.toList with
  | ok l => rw [h] at hm; exact ⟨hm.1, hm.2.1, hm.2.2.list⟩
  | bad q => rw [h] at hm; exact hm
/-- Not more tokens than bytes, and one. -/
theorem lexT_count (n : Nat) : ∀ (k : Nat) (l : List UInt8) (a : List LxM.T), l.length ≤ k → LxM.lexT n l = .ok a → a.length ≤ l.length + 1 := by
  intro k
  induction k with
  | zero =>
    intro l a hk h
    obtain rfl : l = [] := List.eq_nil_of_length_eq_zero (by omega)
    rw [LxM.lexT_nil] at h
    injection h with h
    subst h; simp
  | succ k ih =>
    intro l a hk h
    cases l with
    | nil =>
      rw [LxM.lexT_nil] at h
      injection h with h
      subst h; simp
    | cons c r0 =>
      cases ht : LxM.tk (c :: r0) with
      | none => rw [LxM.lexT_bad _ _ (by simp) ht] at h; cases h
      | some q =>
        obtain ⟨x, r⟩ := q
        have hlen := LxM.tk_len ht
        have hs := LxM.sk_len r false
        rw [LxM.lexT_ok _ _ _ _ ht] at h
        cases hr : LxM.lexS n r with
        | bad p => rw [hr] at h; cases h
        | ok b =>
          rw [hr] at h
          injection h with h
          have := ih _ b (by omega) hr
          rw [← h]
          simp at hlen ⊢
          omega
theorem lex_count {l : List UInt8} {a : List LxM.T} (h : LxM.lex l = .ok a) : a.length ≤ l.length + 1 :=
  Nat.le_trans (lexT_count _ _ _ a (Nat.le_refl _) h) (by have := LxM.sk_len l false; omega)
theorem lexT_at (n : Nat) : ∀ (k : Nat) (l : List UInt8) (a : List LxM.T), l.length ≤ k → LxM.lexT n l = .ok a → ∀ x ∈ a, x.at_ ≤ n := by
  intro k
  induction k with
  | zero =>
    intro l a hk h
    obtain rfl : l = [] := List.eq_nil_of_length_eq_zero (by omega)
    rw [LxM.lexT_nil] at h
    injection h with h
    subst h
    intro x hx
    simp at hx; subst hx; exact Nat.le_refl _
  | succ k ih =>
    intro l a hk h
    cases l with
    | nil =>
      rw [LxM.lexT_nil] at h
      injection h with h
      subst h
      intro x hx
      simp at hx; subst hx; exact Nat.le_refl _
    | cons c r0 =>
      cases ht : LxM.tk (c :: r0) with
      | none => rw [LxM.lexT_bad _ _ (by simp) ht] at h; cases h
      | some q =>
        obtain ⟨x0, r⟩ := q
        have hlen := LxM.tk_len ht
        have hs := LxM.sk_len r false
        rw [LxM.lexT_ok _ _ _ _ ht] at h
        cases hr : LxM.lexS n r with
        | bad p => rw [hr] at h; cases h
        | ok b =>
          rw [hr] at h
          injection h with h
          have := ih _ b (by omega) hr
          rw [← h]
          intro x hx
          rcases List.mem_cons.1 hx with rfl | hx
          · exact Nat.sub_le _ _
          · exact this x hx
theorem lex_at {l : List UInt8} {a : List LxM.T} (h : LxM.lex l = .ok a) : ∀ x ∈ a, x.at_ ≤ l.length := lexT_at _ _ _ a (Nat.le_refl _) h
theorem joins_num (n m N n1 : Nat) (h1 : n = n1 + 1) (h2 : N = n1 + m) (h3 : n ≤ 301) (h4 : m ≤ 301) : wrap64 ((n : Int) + (m : Int)) = (n : Int) + (m : Int) ∧ wrap64 ((n : Int) + (m : Int) - 1) = (N : Int) ∧ wrap64 ((n : Int) - 1) = (n1 : Int) ∧ ((N : Int) != (n : Int) + (m : Int) - 1) = false := by
  refine ⟨by unfold wrap64; omega, by unfold wrap64; omega, by unfold wrap64; omega, ?_⟩
  have : (N : Int) = (n : Int) + (m : Int) - 1 := by omega
  rw [this]; simp
theorem joins_in (k n n1 j : Nat) (h1 : n = n1 + 1) (h2 : k = n1 + j) (h3 : k ≤ 1000) : (k : Int) - (n : Int) + 1 = (j : Int) ∧ ¬ (k : Int) < (n : Int) - 1 ∧ (n : Int) - 1 ≤ (k : Int) := by
  omega
theorem joins_at (p s u v : Nat) (h1 : u = p + s) (h2 : v = u + 1) (h3 : p ≤ 301) (h4 : s ≤ 301) : (p : Int) + (s : Int) = (u : Int) ∧ (u : Int) + 1 = (v : Int) ∧ (u : Int) ≤ 602 ∧ (v : Int) ≤ 603 := by
  refine ⟨by omega, by omega, by omega, by omega⟩
theorem joins_next (k N : Nat) (h : k < N) : (Value.int .i64 ((k : Int) + 1) = .int .i64 ((k + 1 : Nat) : Int)) ∧ N - (intOf (.int .i64 ((k : Int) + 1))).toNat < N - (intOf (.int .i64 (k : Int))).toNat := by
  refine ⟨rfl, ?_⟩
  simp only [intOf]
  omega
/-- A block that is filled with a token, and moved. -/
theorem box_row (W : World) (Z cs : Array Value) : Blk ((W.alloc (.cells Z 31)).setRow W.heap.size cs) W.heap.size cs 31 := setRow_heap' _ _ _ _ _ (Blk.new W Z _)
theorem box_set {W : World} {b : Nat} {v0 v1 v2 v3 : Value} {t : TypeId} (h : Blk W b #[v0, v1, v2, v3] t) (u : Value) : Blk (W.setCell ⟨b, 3, none⟩ u) b #[v0, v1, v2, u] t := by
  have h : W.heap[b]? = _ := h
  show (W.setCell ⟨b, 3, none⟩ u).heap[b]? = _
  simp [World.setCell, Array.getElem?_modify, h]
theorem box_below {B : Nat} {W W1 : World} (h : Below B W W1) (hB : B ≤ W1.heap.size) (Z cs : Array Value) (t : TypeId) (u : Value) : Below B W (((W1.alloc (.cells Z t)).setRow W1.heap.size cs).setCell ⟨W1.heap.size, 3, none⟩ u) :=
  (below_row (h.alloc hB _) _ hB _).setCell (p := ⟨W1.heap.size, 3, none⟩) hB _
set_option maxRecDepth 20000 in
set_option maxHeartbeats 4000000 in
theorem joins_walk (W : World) (er : Er W) (s t : ByteArray) :
    Calls Tryd.prog 7 #[.string s, .string t] W fun e W' => e = .returned (.bool true) ∧ Below W.heap.size W W' := by
  have TO := Lib.hid (fun W1 (h : Er W1) => told_any W1 h)
  have ER := Lib.hid er
  by_cases hs : s.size ≤ 300 ∧ t.size ≤ 300
  · obtain ⟨hs, ht⟩ := hs
    have i1 : (s.size : Int) ≤ 300 := by omega
    have d1 : decide (300 < s.size) = false := decide_eq_false (by omega)
    have i2 : (t.size : Int) ≤ 300 := by omega
    have d2 : decide (300 < t.size) = false := decide_eq_false (by omega)
    have L1 := Lib.hid (lex_list W s (by omega) er)
    have L2 := Lib.hid (fun W1 (h : Er W1) => lex_list W1 t (by omega) h)
    have es : (s ++ ⟨#[10]⟩ ++ t).data.toList = s.data.toList ++ 10 :: t.data.toList := by simp
    have L3 := Lib.hid (fun W1 (h : Er W1) => lex_list W1 (s ++ ⟨#[10]⟩ ++ t) (by rw [ByteArray.size_append, ByteArray.size_append]; show s.size + 1 + t.size ≤ _; omega) h)
    rw [es] at L3
    have zs : s.data.toList.length = s.size := by simp
    have zt : t.data.toList.length = t.size := by simp
    have JO := Lib.hid (fun a b => LxM.lex_joins s.data.toList t.data.toList a b)
    have C1 := Lib.hid (fun a => lex_count (l := s.data.toList) (a := a))
    have C2 := Lib.hid (fun a => lex_count (l := t.data.toList) (a := a))
    have N1 := Lib.hid (fun a => LxM.lexS_ne (n := s.data.toList.length) (l := s.data.toList) (a := a))
    have N2 := Lib.hid (fun a => LxM.lexS_ne (n := t.data.toList.length) (l := t.data.toList) (a := a))
    rw [zs] at JO C1
    rw [zt] at C2
    have HS := Lib.hid hs
    have HT := Lib.hid ht
    obtain ⟨FA, hFA⟩ : ∃ F, LxM.lex s.data.toList = F := ⟨_, rfl⟩
    obtain ⟨FB, hFB⟩ : ∃ F, LxM.lex t.data.toList = F := ⟨_, rfl⟩
    rw [hFA] at L1
    rw [hFB] at L2
    have HFA := Lib.hid hFA
    have HFB := Lib.hid hFB
    clear er hs ht es zs zt hFA hFB
    go_enter Tryd.func7, Tryd.ntmps7
    go_wp2_with fail
    go_at_call 9
    refine L1.out.mono ?_
    rintro e w1 ⟨⟨tva, ea, pa, rfl, ma⟩, b1⟩
    have B1 := Lib.hid b1
    have E1 := Lib.hid (ER.out.below b1 ER.out.two)
    have MA := Lib.hid ma
    clear b1 ma
    go_wp2_with fail
    go_at_call 9
    refine (L2.out _ E1.out).mono ?_
    rintro e w2 ⟨⟨tvb, eb, pb, rfl, mb⟩, b2⟩
    have B2 := Lib.hid b2
    have E2 := Lib.hid (E1.out.below b2 E1.out.two)
    have MB := Lib.hid mb
    have BB2 := Lib.hid (B1.out.trans (b2.mono B1.out.size))
    clear b2 mb
    cases FA with
    | bad q =>
      obtain ⟨rfl, rfl, rfl⟩ := MA.out
      go_wp2_with (go_at_call 8; refine (TO.out _ E2.out).mono ?_; rintro e w3 ⟨rfl, b3⟩)
      go_ret
      exact ⟨rfl, BB2.out.trans (b3.mono BB2.out.size)⟩
    | ok a =>
      obtain ⟨rfl, rfl, la⟩ := MA.out
      cases FB with
      | bad q =>
        obtain ⟨rfl, rfl, rfl⟩ := MB.out
        go_wp2_with (go_at_call 8; refine (TO.out _ E2.out).mono ?_; rintro e w3 ⟨rfl, b3⟩)
        go_ret
        exact ⟨rfl, BB2.out.trans (b3.mono BB2.out.size)⟩
      | ok b =>
        obtain ⟨rfl, rfl, lb⟩ := MB.out
        have JJ := JO.out a b HFA.out HFB.out
        rw [JJ] at L3
        have ca := C1.out a HFA.out
        have cb := C2.out b HFB.out
        have na : 0 < a.length := List.length_pos_iff.2 (N1.out a HFA.out)
        have nb : 0 < b.length := List.length_pos_iff.2 (N2.out b HFB.out)
        have LA := Lib.hid (la.keep B2.out)
        have LB := Lib.hid lb
        clear la lb JJ
        go_wp2_with fail
        go_at_call 9
        refine (L3.out _ E2.out).mono ?_
        rintro e w3 ⟨⟨tvc, ec, pc, rfl, rfl, rfl, lc⟩, b3⟩
        have BB3 := Lib.hid (BB2.out.trans (b3.mono BB2.out.size))
        have la := LA.out.keep b3
        have lb := LB.out.keep b3
        have AT := Lib.hid (lex_at HFB.out)
        have E3 := Lib.hid (E2.out.below b3 E2.out.two)
        obtain ⟨A, cA, rfl, -, -⟩ := la.shows
        obtain ⟨B, cB, rfl, -, -⟩ := lb.shows
        obtain ⟨C, cC, rfl, -, -⟩ := lc.shows
        obtain ⟨-, hA, hcA, tA⟩ := la.tok
        obtain ⟨-, hB, hcB, tB⟩ := lb.tok
        obtain ⟨-, hC, hcC, tC⟩ := lc.tok
        have TA := Lib.hid tA
        have TB := Lib.hid tB
        have TC := Lib.hid tC
        have elen : (a.dropLast ++ b.map (LxM.mv (s.size + 1))).length = a.length - 1 + b.length := by simp
        obtain ⟨l, el⟩ : ∃ l, a.dropLast ++ b.map (LxM.mv (s.size + 1)) = l := ⟨_, rfl⟩
        have EL := Lib.hid el
        rw [el] at elen hcC TC ⊢
        obtain ⟨n, en⟩ : ∃ n, a.length = n := ⟨_, rfl⟩
        obtain ⟨n1, en1⟩ : ∃ n1, n = n1 + 1 := ⟨n - 1, by omega⟩
        obtain ⟨m, em⟩ : ∃ m, b.length = m := ⟨_, rfl⟩
        obtain ⟨N, eN⟩ : ∃ N, l.length = N := ⟨_, rfl⟩
        have NL := Lib.hid (show a.length = n ∧ n = n1 + 1 ∧ b.length = m ∧ l.length = N ∧ N = n1 + m by omega)
        have hst := HS.out
        have htt := HT.out
        rw [en] at hcA na ca ⊢
        rw [em] at hcB nb cb ⊢
        rw [eN] at hcC ⊢
        have eN2 : N = n1 + m := NL.out.2.2.2.2
        have FN := Lib.hid (joins_num n m N n1 NL.out.2.1 NL.out.2.2.2.2 (Nat.le_trans ca (Nat.succ_le_succ hst)) (Nat.le_trans cb (Nat.succ_le_succ htt)))
        have f4 : ((N : Int) == (N : Int)) = true := beq_self_eq_true _
        have i3 : (0 : Int) ≤ (n : Int) := by omega
        have i4 : (n : Int) ≤ (cA : Int) := by omega
        have i5 : (m : Int) ≤ (cB : Int) := by omega
        have i6 : (N : Int) ≤ (cC : Int) := by omega
        have i7 : (N : Int) ≤ 1000 := by omega
        clear la lb lc tA tB tC hA hB hC el elen en em eN en1 eN2 b3 hcA hcB hcC
        have f1 := FN.out.1
        have f5 := FN.out.2.2.2
        go_wp2_with fail
        clear f1 f5
        go_loopw [14, 15] (fun i x wr => ∃ k : Nat, k ≤ N ∧ i = .int .i64 k ∧ Below w3.heap.size w3 wr) (fun i _ _ => N - (intOf i).toNat)
        case atStart => exact ⟨0, Nat.zero_le _, rfl, Below.refl _ _⟩
        case round =>
          obtain ⟨k, hk, rfl, hb⟩ := hrel
          have HB := Lib.hid hb
          have k0 : (0 : Int) ≤ (k : Int) := by omega
          by_cases hlt : k < N
          · have k1 : (k : Int) < (N : Int) := by omega
            have hkl : k < l.length := by rw [NL.out.2.2.2.1]; exact hlt
            obtain ⟨pc, rfl, hpc, tkc⟩ := TC.out k hkl
            have tkc := tkc.keep hb (by rw [add_block]; exact hpc)
            have ne := run_neq_alike
            by_cases hkn : k < n1
            · have k2 : (k : Int) < (n1 : Int) := by omega
              have k3 : (k : Int) < (n : Int) := by have := NL.out; omega
              have hka : k < a.length := by rw [NL.out.1]; have := NL.out; omega
              obtain ⟨pa, rfl, hpa, tka⟩ := TA.out k hka
              have tka := tka.keep hb (by rw [add_block]; exact hpa)
              have et : l[k] = a[k] := by
                have h : l[k]? = a[k]? := by
                  rw [← EL.out, List.getElem?_append_left (by rw [List.length_dropLast, NL.out.1]; have := NL.out; omega), List.getElem?_dropLast, if_pos (by rw [NL.out.1]; have := NL.out; omega)]
                rw [List.getElem?_eq_getElem hkl, List.getElem?_eq_getElem hka] at h
                exact Option.some.inj h
              rw [et] at tkc
              obtain ⟨x, ex⟩ : ∃ x, a[k] = x := ⟨_, rfl⟩
              rw [ex] at tkc tka
              obtain ⟨e0, e1, e2, e3⟩ := tkc
              obtain ⟨g0, g1, g2, g3⟩ := tka
              clear hpc hpa et ex hb
              have f3 : (k : Int) < (n : Int) - 1 := by have := NL.out.2.1; omega
              have f3' : ¬ (n : Int) - 1 ≤ (k : Int) := by omega
              go_wp2_with fail
              go_region
              go_wp2_with fail
              have jn := joins_next k N hlt
              clear f3 f3' i1 i2 i3 i4 i5 i6 k2 k3 hst htt
              refine ⟨⟨k + 1, hlt, ?_, HB.out.drew⟩, ?_⟩
              · exact jn.1
              · exact jn.2
            · obtain ⟨j, ej⟩ : ∃ j, k = n1 + j := ⟨k - n1, by omega⟩
              have k2 : (n1 : Int) ≤ (k : Int) := by omega
              have k4 : decide (k < n1) = false := decide_eq_false hkn
              have k5 : decide ((k : Int) < (n1 : Int)) = false := decide_eq_false (by omega)
              have hjm : j < m := by have := NL.out; omega
              have hkN : k ≤ 1000 := by omega
              have hjb : j < b.length := by rw [NL.out.2.2.1]; exact hjm
              have j0 : (0 : Int) ≤ (j : Int) := by omega
              have j1 : (j : Int) < (m : Int) := by omega
              obtain ⟨pb, rfl, hpb, tkb⟩ := TB.out j hjb
              have tkb := tkb.keep hb (by rw [add_block]; exact hpb)
              have et : l[k] = LxM.mv (s.size + 1) b[j] := by
                have h : l[k]? = (b.map (LxM.mv (s.size + 1)))[j]? := by
                  rw [← EL.out, List.getElem?_append_right (by rw [List.length_dropLast, NL.out.1]; have := NL.out; omega)]
                  congr 1
                  rw [List.length_dropLast, NL.out.1]; have := NL.out; omega
                rw [List.getElem?_eq_getElem hkl, List.getElem?_map, List.getElem?_eq_getElem hjb] at h
                exact Option.some.inj h
              rw [et] at tkc
              have hat := AT.out b[j] (List.getElem_mem hjb)
              rw [show t.data.toList.length = t.size by simp] at hat
              obtain ⟨x, ex⟩ : ∃ x, b[j] = x := ⟨_, rfl⟩
              rw [ex] at tkc tkb hat
              have hat3 : x.at_ ≤ 301 := by omega
              have hs3 : s.size ≤ 301 := by omega
              obtain ⟨u, eu⟩ : ∃ u, u = x.at_ + s.size := ⟨_, rfl⟩
              obtain ⟨v, ev⟩ : ∃ v, v = u + 1 := ⟨_, rfl⟩
              have exv : LxM.mv (s.size + 1) x = { x with at_ := v } := by
                unfold LxM.mv; rw [ev, eu]; rfl
              rw [exv] at tkc
              have FI := Lib.hid (joins_in k n n1 j NL.out.2.1 ej hkN)
              have FA2 := Lib.hid (joins_at x.at_ s.size u v eu ev hat3 hs3)
              obtain ⟨g0, g1, g2, g3⟩ := tkb
              have BK0 := Lib.hid (Blk.new wr #[.int .i64 0, .string ⟨#[]⟩, .int .i64 0, .int .i64 0] 31)
              have bk1 := box_row wr #[.int .i64 0, .string ⟨#[]⟩, .int .i64 0, .int .i64 0] (tcs x)
              obtain ⟨⟨-, -, -, y3⟩, -, -, -, z3⟩ := bk1.four
              have bk2 := box_set bk1 (.int .i64 (v : Int))
              obtain ⟨⟨m0, m1, m2, m3⟩, -, -, -, -⟩ := bk2.four
              have BX := Lib.hid (box_below hb hb.size #[.int .i64 0, .string ⟨#[]⟩, .int .i64 0, .int .i64 0] (tcs x) 31 (.int .i64 (v : Int)))
              obtain ⟨e0, e1, e2, e3⟩ := (TC.out k hkl).elim fun pc' h => (by
                obtain ⟨q1, q2, q3⟩ := h
                obtain rfl := Option.some.inj q1
                rw [et, ex, exv] at q3
                exact q3.keep BX.out (by rw [add_block]; exact q2) : TokAt _ (pc.add (k * 4)) { x with at_ := v })
              clear hpc hpb et ex exv hb tkc bk1 bk2 eu ev hat hat3 hs3 ej
              have g11 := FI.out.1
              have g12 := FI.out.2.1
              have g12' := FI.out.2.2
              have g13 := FA2.out.1
              have g14 := FA2.out.2.1
              have g15 := FA2.out.2.2.1
              have g16 := FA2.out.2.2.2
              go_wp2_with (first
                | (refine wpList_store_row rfl 31 (.tmp 15) (.tmp 93) rfl wr.heap.size (tcs x) rfl rfl 31 _ BK0.out sizeT rfl (one4 _ _ _ _) ?_)
                | (refine wp_store_row 31 (.tmp 15) (.tmp 93) rfl wr.heap.size (tcs x) rfl rfl 31 _ BK0.out sizeT rfl (one4 _ _ _ _) ?_))
              go_region
              go_wp2_with fail
              have jn := joins_next k N hlt
              clear g11 g12 g12' g13 g14 g15 g16 i1 i2 i3 i4 i5 i6 k2 k4 k5 hst htt j0 j1
              refine ⟨⟨k + 1, hlt, ?_, BX.out.drew⟩, ?_⟩
              · exact jn.1
              · exact jn.2
          · have k1 : (N : Int) ≤ (k : Int) := by omega
            clear hb
            have E4 := Lib.hid (E3.out.below HB.out E3.out.two)
            go_wp2_with (go_at_call 8; refine (TO.out _ E4.out).mono ?_; rintro e w5 ⟨rfl, b5⟩)
            go_ret
            exact ⟨rfl, BB3.out.trans ((HB.out.trans (b5.mono HB.out.size)).mono BB3.out.size)⟩
  · rcases Nat.lt_or_ge 300 s.size with h1 | h1
    · have i1 : (300 : Int) < (s.size : Int) := by omega
      have d1 : decide (300 < s.size) = true := decide_eq_true h1
      clear er hs h1
      go_enter Tryd.func7, Tryd.ntmps7
      go_wp2_with (go_at_call 8; refine (TO.out _ ER.out).mono ?_; rintro e w3 ⟨rfl, b3⟩)
      go_ret
      exact ⟨rfl, b3⟩
    · have h2 : 300 < t.size := by omega
      have i1 : (s.size : Int) ≤ 300 := by omega
      have d1 : decide (300 < s.size) = false := decide_eq_false (by omega)
      have i2 : (300 : Int) < (t.size : Int) := by omega
      have d2 : decide (300 < t.size) = true := decide_eq_true h2
      clear er hs h1 h2
      go_enter Tryd.func7, Tryd.ntmps7
      go_wp2_with (go_at_call 8; refine (TO.out _ ER.out).mono ?_; rintro e w3 ⟨rfl, b3⟩)
      go_ret
      exact ⟨rfl, b3⟩
end Go.Proofs.YtikbgkndfmcfhaaDoor
