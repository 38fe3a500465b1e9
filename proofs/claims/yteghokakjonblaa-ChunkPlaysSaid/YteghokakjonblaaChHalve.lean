/- Package chunk: a full chunk halved. -/
import Derived.Test.YteghokakjonblaaChOpen
namespace Go.Proofs.Yteghokakjonblaa
open Go.RowKit Go.Lib
set_option linter.unusedVariables false
theorem Src1.drew {w : World} {vb : Nat} {x : Value} (h : Src1 w vb x) : Src1 w.drew vb x := ⟨h.cell, h.shape, h.free, h.one⟩
theorem take_mid {α : Type} (pre post : List α) (c : α) : (pre ++ c :: post).take (pre.length + 1) = pre ++ [c] := by
  rw [show pre ++ c :: post = (pre ++ [c]) ++ post by simp, List.take_left' (by simp)]
theorem drop_mid {α : Type} (pre post : List α) (c : α) : (pre ++ c :: post).drop (pre.length + 1) = post := by
  rw [show pre ++ c :: post = (pre ++ [c]) ++ post by simp, List.drop_left' (by simp)]
/-- The two halves of a chunk. -/
def leftOf (c : Ck) : Ck := ⟨c.b, c.off, 16, c.l.take 16⟩
def rightOf (c : Ck) : Ck := ⟨c.b, c.off + 16, c.cap - 16, c.l.drop 16⟩
theorem left_rng {c : Ck} (h : 16 ≤ c.cap) {a : Addr} (r : (leftOf c).rng a) : c.rng a := by
  obtain ⟨x, y, z⟩ := r
  exact ⟨x, y, by have : a.off < c.off + 16 := z; omega⟩
theorem right_rng {c : Ck} (h : 16 ≤ c.cap) {a : Addr} (r : (rightOf c).rng a) : c.rng a := by
  obtain ⟨x, y, z⟩ := r
  have y : c.off + 16 ≤ a.off := y
  have z : a.off < c.off + 16 + (c.cap - 16) := z
  exact ⟨x, by omega, by omega⟩
theorem left_right {c : Ck} {a : Addr} (r : (leftOf c).rng a) (s : (rightOf c).rng a) : False := by
  have z : a.off < c.off + 16 := r.2.2
  have y : c.off + 16 ≤ a.off := s.2.1
  omega
theorem left_at {w : World} {c : Ck} (h : CkAt w c) (hc : 16 ≤ c.cap) : CkAt w (leftOf c) :=
  ⟨h.lt, by show ((c.l.take 16).map Value.string).length ≤ 16; simp; omega, by show 16 ≤ 9223372036854775807; omega, ck_one _, (fun j v e => by
    have e : ((c.l.take 16).map Value.string)[j]? = some v := e
    refine h.get j v ?_
    rw [List.getElem?_map, List.getElem?_take] at e
    split at e
    · rw [List.getElem?_map]; exact e
    · cases e), fun j hj => h.is j (by have : j < 16 := hj; omega), h.free⟩
theorem right_at {w : World} {c : Ck} (h : CkAt w c) (hc : 16 ≤ c.cap) : CkAt w (rightOf c) :=
  have len := h.len
  have big := h.big
  ⟨h.lt, by
    show ((c.l.drop 16).map Value.string).length ≤ c.cap - 16
    simp at len ⊢; omega, by show c.cap - 16 ≤ 9223372036854775807; omega, ck_one _, fun j v e => by
    have e : ((c.l.drop 16).map Value.string)[j]? = some v := e
    rw [List.getElem?_map, List.getElem?_drop, ← List.getElem?_map] at e
    have := h.get (16 + j) v e
    show w.cell? ⟨c.b, c.off + 16 + j, none⟩ = some v
    rwa [Nat.add_assoc], fun j hj => by
    have := h.is (16 + j) (by have : j < c.cap - 16 := hj; omega)
    show (w.cell? ⟨c.b, c.off + 16 + j, none⟩).isSome = true
    rwa [Nat.add_assoc], h.free⟩
set_option maxHeartbeats 2000000 in
theorem halve_any (w : World) (q : Nat) (R : Ch) (h : Lies w q R) {pre post : List Ck} {c : Ck} (e : R.cs = pre ++ c :: post) (hl : c.l.length = 32) (h9 : R.cs.length ≤ 1048576) :
    Calls Try.prog 34 #[.pointer (some ⟨q, 0, none⟩), .int .i64 (pre.length : Int)] w fun e w' => e = .returned (.tuple #[]) ∧ ∃ B cap, Step w q R w' { R with B := B, cap := cap, cs := pre ++ leftOf c :: rightOf c :: post } := by
  obtain ⟨B, eB, sp⟩ := h.spot e
  have c0 := sp.head
  have c1 := sp.slot
  rw [hl] at c1
  have capc := sp.ck.len
  have bigc := sp.ck.big
  rw [List.length_map, hl] at capc
  obtain ⟨p, ep⟩ : ∃ p, p = pre.length := ⟨_, rfl⟩
  have b0 := sp.len
  have b1 := sp.big
  have p2 := sp.lt
  obtain ⟨n, en⟩ : ∃ n, n = R.cs.length := ⟨_, rfl⟩
  rw [← ep] at c1 p2 ⊢
  rw [← en] at c0 b0 p2
  have p0 : (0 : Int) ≤ (p : Int) := by omega
  have p1 : (p : Int) < (n : Int) := by omega
  have fB := sp.fB p
  have wp1 : IntKind.i64.wrap ((p : Int) + 1) = (p : Int) + 1 := by rw [IntKind.wrap_i64]; omega
  have fq := sp.fq
  have Bq := sp.Bq
  obtain ⟨lies1, turn1⟩ := h.setChunk (w1 := w.drew) (c' := leftOf c) e eB (Turn.refl _ w).drew (left_at sp.ck.drew (by omega)) (.inl ⟨rfl, fun a r => left_rng (by omega) r⟩)
  rw [← ep] at lies1 turn1
  obtain ⟨w1, ew1⟩ : ∃ w1, w1 = w.drew.setCell ⟨B, p, none⟩ (ckv (leftOf c)) := ⟨_, rfl⟩
  rw [← ew1] at lies1 turn1
  obtain ⟨R1, eR1⟩ : ∃ R1 : Ch, R1 = { R with cs := pre ++ leftOf c :: post } := ⟨_, rfl⟩
  rw [← eR1] at lies1
  have e1 : R1.cs = pre ++ leftOf c :: post := by rw [eR1]
  have eB1 : R1.B = some B := by rw [eR1]; exact eB
  have ecap1 : R1.cap = R.cap := by rw [eR1]
  have n1 : R1.cs.length = n := by rw [e1, en, e]; simp
  have lm : leftOf c ∈ R1.cs := by rw [e1]; simp
  have st1 : Step w q R w1 R1 := by
    refine ⟨lies1, turn1.wide fun a x => ?_, fun k hk => ?_⟩
    · rcases x with x | x
      · exact .inr (.inl (by rw [x]; exact eB))
      · exact .inr (.inr ⟨c, by rw [e]; simp, x.symm⟩)
    · rcases hk with x | x | ⟨d, hd, x⟩
      · exact .inl (.inl x)
      · exact .inl (.inr (.inl (by rw [eR1] at x; exact x)))
      · rw [e1] at hd
        rcases List.mem_append.1 hd with y | y
        · exact .inl (.inr (.inr ⟨d, by rw [e]; simp [y], x⟩))
        · rcases List.mem_cons.1 y with rfl | y
          · exact .inl (.inr (.inr ⟨c, by rw [e]; simp, x⟩))
          · exact .inl (.inr (.inr ⟨d, by rw [e]; simp [y], x⟩))
  have right1 : CkAt w1 (rightOf c) := (right_at sp.ck (by omega)).turn (D := fun a => a.block = B) (by rw [ew1]; exact ((Turn.refl _ w).drew).trans (Turn.set (D := fun a => a.block = B) w.drew rfl _) fun a x => .inl x) fun a ha x => by
    have : a.block = c.b := ha.1
    exact sp.cB (this.symm.trans x)
  have sep : ∀ x ∈ R1.cs, ∀ a, x.rng a → ¬ (rightOf c).rng a := fun x hx a ha hr => by
    rw [e1] at hx
    have k := h.split e
    rcases List.mem_append.1 hx with y | y
    · exact k x (.inl y) a ha (right_rng (by omega) hr)
    · rcases List.mem_cons.1 y with rfl | y
      · exact left_right ha hr
      · exact k x (.inr y) a ha (right_rng (by omega) hr)
  have s1 := lies1.some_ B eB1
  rw [ecap1] at s1
  have call : Calls Try.prog 40 #[.slice (some ⟨B, 0, none⟩) n R.cap, .int .i64 ((p : Int) + 1), .slice (some ⟨w1.heap.size, 0, none⟩) 1 1] (w1.alloc (.cells #[ckv (rightOf c)] 22)).drew (Ins (w1.alloc (.cells #[ckv (rightOf c)] 22)).drew B 0 R.cap (R1.cs.map ckv) (p + 1) (ckv (rightOf c))) := by
    have := insC.any ((s1.below ((Below.refl _ w1).alloc (Nat.le_refl _) (.cells #[ckv (rightOf c)] 22))).drew) (Src1.new w1 (ckv (rightOf c)) 22 rfl).drew (p + 1) (by rw [List.length_map]; omega) (by rw [List.length_map]; omega) (by have := s1.lt; omega)
    rw [List.length_map, n1] at this
    rwa [show ((p + 1 : Nat) : Int) = (p : Int) + 1 by omega] at this
  have rv : ckv (rightOf c) = .slice (some ⟨c.b, c.off + 16, none⟩) 16 (c.cap - 16) := by
    show Value.slice (some ⟨c.b, c.off + 16, none⟩) (c.l.drop 16).length (c.cap - 16) = _
    rw [List.length_drop, hl]
  have lv : ckv (leftOf c) = .slice (some ⟨c.b, c.off, none⟩) 16 16 := by
    show Value.slice (some ⟨c.b, c.off, none⟩) (c.l.take 16).length 16 = _
    rw [List.length_take, hl]
    rfl
  rw [rv] at call
  have d0 : w1.cell? ⟨q, 0, none⟩ = some (.slice (some ⟨B, 0, none⟩) n R.cap) := by
    have := lies1.head
    rw [eB1, ecap1, n1] at this
    exact this
  have dq := lies1.free 0
  have lq1 := lies1.lt
  have FIN : Hid (∀ (b' cap' : Nat) (W : World), Step w1 q R1 W { R1 with B := some b', cap := cap', cs := R1.cs.take (p + 1) ++ rightOf c :: R1.cs.drop (p + 1) } → Step w q R W { R with B := some b', cap := cap', cs := pre ++ leftOf c :: rightOf c :: post }) := by
    intro b' cap' W st
    have := st1.trans st
    rw [e1, ep, take_mid, drop_mid, List.append_assoc, List.singleton_append, eR1] at this
    exact this
  have CALL := Lib.hid call
  have ST := Lib.hid (And.intro st1 (And.intro right1 (And.intro sep (And.intro e1 (And.intro eB1 (And.intro ecap1 (And.intro n1 (And.intro lm (And.intro ep p2)))))))))
  have RV := Lib.hid rv
  have W1 := Lib.hid ew1
  rw [lv] at W1
  obtain ⟨cb, eb⟩ : ∃ b, b = c.b := ⟨_, rfl⟩
  obtain ⟨co, eo⟩ : ∃ b, b = c.off := ⟨_, rfl⟩
  obtain ⟨cc, ec⟩ : ∃ b, b = c.cap := ⟨_, rfl⟩
  rw [← eb, ← eo, ← ec] at c1 CALL
  rw [← eb, ← eo] at W1
  rw [← ec] at capc bigc
  have hc16 : ¬ (cc = 16) := by omega
  have RV2 : Hid (ckv (rightOf c) = .slice (some ⟨cb, co + 16, none⟩) 16 (cc - 16)) := by
    show ckv (rightOf c) = .slice (some ⟨cb, co + 16, none⟩) 16 (cc - 16)
    rw [eb, eo, ec]; exact rv
  clear sp h e hl h9 ep en eB lies1 turn1 ew1 eR1 e1 eB1 ecap1 n1 lm st1 right1 sep s1 call rv lv eb eo ec RV
  have HD := Lib.hid (And.intro d0 (And.intro dq lq1))
  clear d0 dq lq1
  go_enter Try.func34, Try.ntmps34
  go_wp2_with fail
  go_region
  have W2 : (w.setCell ⟨B, p, none⟩ (.slice (some ⟨cb, co, none⟩) 16 16)).drew = w1 := by rw [W1.out]; rfl
  rw [W2]
  clear W2
  obtain ⟨d0, dq, lq1⟩ := HD.out
  clear c0 c1 fB fq
  have FACT : Hid (∀ e w', Ins (w1.alloc (.cells #[.slice (some ⟨cb, co + 16, none⟩) 16 (cc - 16)] 22)).drew B 0 R.cap (R1.cs.map ckv) (p + 1) (.slice (some ⟨cb, co + 16, none⟩) 16 (cc - 16)) e w' →
      ∃ b' cap', e = .returned (.slice (some ⟨b', 0, none⟩) (n + 1) cap') ∧ w'.cell? ⟨q, 0, none⟩ = some (.slice (some ⟨B, 0, none⟩) n R.cap) ∧ w'.frozen? ⟨q, 0, none⟩ = false ∧
        Step w1 q R1 (w'.setCell ⟨q, 0, none⟩ (.slice (some ⟨b', 0, none⟩) (n + 1) cap')) { R1 with B := some b', cap := cap', cs := R1.cs.take (p + 1) ++ rightOf c :: R1.cs.drop (p + 1) }) := by
    intro e w' hi
    obtain ⟨st1, right1, sep, e1, eB1, ecap1, n1, lm, ep, p2⟩ := ST.out
    obtain ⟨b', off', cap', rfl, sl, alt⟩ := hi
    rw [List.length_map, n1] at alt
    have o0 : off' = 0 := by rcases alt with ⟨_, _, z, _⟩ | ⟨_, _, z, _⟩ <;> exact z
    subst o0
    have ba : Below w1.heap.size w1 (w1.alloc (.cells #[.slice (some ⟨cb, co + 16, none⟩) 16 (cc - 16)] 22)).drew := ((Below.refl _ w1).alloc (Nat.le_refl _) _).drew
    have t2 : Turn (fun a => Rng B 0 R.cap a) (w1.alloc (.cells #[.slice (some ⟨cb, co + 16, none⟩) 16 (cc - 16)] 22)).drew w' := by
      rcases alt with ⟨_, _, _, _, t⟩ | ⟨_, _, _, t⟩
      · exact t
      · exact Turn.of_below t
    have tw : Turn (fun a => Rng B 0 R.cap a) w1 w' := (Turn.of_below ba).trans t2 fun a z => .inl z
    have sza : (w1.alloc (.cells #[.slice (some ⟨cb, co + 16, none⟩) 16 (cc - 16)] 22)).drew.heap.size = w1.heap.size + 1 := ne_alloc w1 _
    have cbB : (rightOf c).b ≠ B := st1.lies.cB B eB1 (leftOf c) lm
    have clt := right1.lt
    refine ⟨b', cap', by rw [List.length_map, n1], by rw [tw.cell _ lq1 (fun z => Bq z.1.symm)]; exact d0, by rw [tw.frozen _ lq1]; exact dq, ?_⟩
    have := st1.lies.inserted (c := rightOf c) (k := p + 1) (by rw [n1]; omega) tw (fun a z => by rw [eB1, z.1]) (B := b') (cap := cap') (by rw [RV2.out]; exact sl) (by
      rcases alt with ⟨_, z, _⟩ | ⟨_, z, _⟩
      · exact .inl (by rw [z]; exact eB1)
      · exact .inr ⟨by omega, by omega⟩) (right1.turn tw fun a ha z => cbB (ha.1.symm.trans z.1)) (.inr ⟨leftOf c, lm, rfl⟩) sep
    rw [n1] at this
    exact this
  clear HD
  go_wp2_with fail
  go_region_with (first
    | (go_at_call 40; with_reducible refine CALL.out.mono ?_; intro e w3 hi; obtain ⟨b', cap', rfl, x0, xf, stp⟩ := FACT.out e w3 hi; have SP := Lib.hid stp; clear stp hi)
    | fail)
  all_goals (go_end0; exact ⟨rfl, some b', cap', FIN.out _ _ _ SP.out⟩)
end Go.Proofs.Yteghokakjonblaa
