/- Package table: where a name stands. -/
import Derived.Test.YtedpanfdkdbblaaTbIns
import Derived.ScopeJumps
namespace Go.Proofs.Ytedpanfdkdbblaa
open Go.RowKit
set_option linter.unusedVariables false
theorem wp_scope_again {P : Program} {a : Act} {w : World} {Q : Exit → Act → World → Prop} {c rest : Code} (l : Nat) (J : Act → World → Prop) (μ : Act → World → Nat) (hf : findLabel c l = some (.seq .skip rest))
    (pass : ∀ a w, J a w → rest.wp P (Exit.jump l (fun a' w' => J a' w' ∧ μ a' w' < μ a w) Q) a w)
    (first : Hid (∀ a w, J a w → rest.wp P (Exit.jump l J Q) a w) → c.wp P (Exit.jump l J Q) a w) : (Code.scope c).wp P Q a w :=
  wp_scope_jumps l J μ hf (first fun a w h => wp_mono (pass a w h) fun e a w q => by cases e <;> first | exact ⟨q.1, q.2.1⟩ | exact q)
    fun a w h => wp_seq (wp_skip (pass a w h))
/-- A table: its two arrays, with their blocks; how many slots are left behind; how many names; how many moved. -/
structure Tb where
  B : Nat
  c : List (List Nd)
  two : Option (Nat × List (List Nd))
  passed : Nat
  count : Nat
  work : Nat
/-- An array as a value. -/
def arrV : Option (Nat × List (List Nd)) → Value
  | none => .slice none 0 0
  | some (B, cs) => .slice (some ⟨B, 0, none⟩) cs.length cs.length
/-- The table's own five cells. -/
structure Head (w : World) (q : Nat) (T : Tb) : Prop where
  first : w.cell? ⟨q, 0, none⟩ = some (.slice (some ⟨T.B, 0, none⟩) T.c.length T.c.length)
  second : w.cell? ⟨q, 1, none⟩ = some (arrV T.two)
  passed : w.cell? ⟨q, 2, none⟩ = some (.int .i64 (T.passed : Int))
  count : w.cell? ⟨q, 3, none⟩ = some (.int .i64 (T.count : Int))
  work : w.cell? ⟨q, 4, none⟩ = some (.int .i64 (T.work : Int))
  free : ∀ i, w.frozen? ⟨q, i, none⟩ = false
  lt : q < w.heap.size
structure Lies (w : World) (q : Nat) (T : Tb) : Prop where
  head : Head w q T
  a1 : Arr w T.B T.c
  a2 : ∀ B cs, T.two = some (B, cs) → Arr w B cs
theorem Head.turn {D : Addr → Prop} {w w' : World} {q : Nat} {T : Tb} (h : Head w q T) (t : Turn D w w') (hd : ∀ i, ¬ D ⟨q, i, none⟩) : Head w' q T :=
  ⟨by rw [t.cell _ h.lt (hd 0), h.first], by rw [t.cell _ h.lt (hd 1), h.second], by rw [t.cell _ h.lt (hd 2), h.passed], by rw [t.cell _ h.lt (hd 3), h.count], by rw [t.cell _ h.lt (hd 4), h.work], fun i => by rw [t.frozen _ h.lt, h.free], Nat.lt_of_lt_of_le h.lt t.size⟩
theorem Lies.below {w w' : World} {q : Nat} {T : Tb} (h : Lies w q T) (hb : Below w.heap.size w w') : Lies w' q T :=
  ⟨h.head.turn (Turn.of_below (D := fun _ => False) hb) fun _ e => e, h.a1.turn (Turn.of_below (D := fun _ => False) hb) (fun _ e => e) (fun _ _ _ e => e), fun B cs e => (h.a2 B cs e).turn (Turn.of_below (D := fun _ => False) hb) (fun _ e => e) (fun _ _ _ e => e)⟩
/-- What is asked of sizes for a walk. -/
structure Fits (T : Tb) : Prop where
  k0 : 0 < T.c.length
  k9 : T.c.length ≤ 1048576
  j0 : ∀ B cs, T.two = some (B, cs) → 0 < cs.length
  j9 : ∀ B cs, T.two = some (B, cs) → cs.length ≤ 1048576
  c9 : T.count ≤ 1048576
theorem run_eql_none (W : World) : (binOp .eql 48 (.slice none 0 0) (.slice none 0 0)).run Try.prog W = .ok (.bool true) W := by kernel_rfl
theorem run_eql_some (W : World) (B k : Nat) : (binOp .eql 48 (.slice (some ⟨B, 0, none⟩) k k) (.slice none 0 0)).run Try.prog W = .ok (.bool false) W := by kernel_rfl
theorem run_neq_none (W : World) : (binOp .neq 48 (.slice none 0 0) (.slice none 0 0)).run Try.prog W = .ok (.bool false) W := by kernel_rfl
theorem run_neq_some (W : World) (B k : Nat) : (binOp .neq 48 (.slice (some ⟨B, 0, none⟩) k k) (.slice none 0 0)).run Try.prog W = .ok (.bool true) W := by kernel_rfl
def sl (cs : List (List Nd)) (s : List UInt8) : Nat := slotOf cs.length s
/-- The name is not there. -/
def Gone (o : Option (Nat × List (List Nd))) (s : List UInt8) : Prop := ∀ B cs, o = some (B, cs) → ∀ y ∈ chainAt cs (sl cs s), y.s ≠ s
/-- The name stands behind pre in an array. -/
def There (o : Option (Nat × List (List Nd))) (s : List UInt8) (v : Value) : Prop := ∃ B cs pre x post, o = some (B, cs) ∧ chainAt cs (sl cs s) = pre ++ x :: post ∧ x.s = s ∧ v = .pointer (some (linkAt ⟨B, sl cs s, none⟩ pre))
def FindJ (w0 : World) (q : Nat) (s : ByteArray) (T : Tb) (a' : Act) (w' : World) : Prop :=
  Below w0.heap.size w0 w' ∧ ∃ (o1 o2 : Option (Nat × List (List Nd))) (u4 u7 u8 u9 u10 u11 u12 u13 u14 u15 u16 u17 u18 u19 u20 u21 u22 u23 u24 u25 u26 u27 u28 u29 u30 u31 u32 u33 u34 u35 u36 u37 u38 u39 : Value), a' = { tmps := #[.pointer (some ⟨q, 0, none⟩), .string s, undef, undef, u4, arrV o1, arrV o2, u7, u8, u9, u10, u11, u12, u13, u14, u15, u16, u17, u18, u19, u20, u21, u22, u23, u24, u25, u26, u27, u28, u29, u30, u31, u32, u33, u34, u35, u36, u37, u38, u39], defers := [] } ∧
    ((o1 = some (T.B, T.c) ∧ o2 = T.two) ∨ (o1 = T.two ∧ o2 = none ∧ Gone (some (T.B, T.c)) s.data.toList) ∨ (o1 = none ∧ o2 = none ∧ Gone (some (T.B, T.c)) s.data.toList ∧ Gone T.two s.data.toList))
def full : Value → Nat
  | .slice (some _) _ _ => 1
  | _ => 0
def FindM (a' : Act) (_ : World) : Nat := full (a'.tmps.getD 5 undef) + full (a'.tmps.getD 6 undef)
set_option maxHeartbeats 4000000 in
theorem find_any (w : World) (q : Nat) (T : Tb) (h : Lies w q T) (f : Fits T) (s : ByteArray) (hs : s.size ≤ 1048576) :
    Calls Try.prog 34 #[.pointer (some ⟨q, 0, none⟩), .string s] w fun e w' => Below w.heap.size w w' ∧
      ((e = .returned (.pointer none) ∧ Gone (some (T.B, T.c)) s.data.toList ∧ Gone T.two s.data.toList) ∨ ∃ v, e = .returned v ∧ (There (some (T.B, T.c)) s.data.toList v ∨ There T.two s.data.toList v)) := by
  have c0 := h.head.first
  have c1 := h.head.second
  have q0 := run_eql_none
  have q1 := run_eql_some
  have HH := Lib.hid h
  have FF := Lib.hid f
  clear h f
  go_enter Try.func34, Try.ntmps34
  go_wp2_with fail
  refine wp_scope_again 0 (FindJ w q s T) FindM rfl ?_ ?_
  rotate_left
  · intro H
    go_wp2_with fail
    go_region
    go_wp2_with fail
    go_step3
    rename_i hK
    refine hK _ _ (H _ _ ⟨(Below.refl _ w).drew, some (T.B, T.c), T.two, _, _, _, _, _, _, _, _, _, _, _, _, _, _, _, _, _, _, _, _, _, _, _, _, _, _, _, _, _, _, _, _, _, _, rfl, .inl ⟨rfl, rfl⟩⟩)
  · rintro a' w' ⟨hb, o1, o2, u4, u7, u8, u9, u10, u11, u12, u13, u14, u15, u16, u17, u18, u19, u20, u21, u22, u23, u24, u25, u26, u27, u28, u29, u30, u31, u32, u33, u34, u35, u36, u37, u38, u39, rfl, ho⟩
    have L := HH.out.below hb
    have HO := Lib.hid ho
    have HB := Lib.hid hb
    have HL := Lib.hid L
    rcases o1 with _ | ⟨B, cs⟩
    · clear ho hb L
      rw [show arrV none = .slice none 0 0 from rfl]
      go_wp2_with fail
      simp only [Exit.jump]
      go_ret
      refine ⟨HB.out, .inl ⟨rfl, ?_⟩⟩
      rcases HO.out with ⟨e, -⟩ | ⟨e, -, g⟩ | ⟨-, -, g, g'⟩
      · cases e
      · exact ⟨g, fun B cs h => by rw [← e] at h; cases h⟩
      · exact ⟨g, g'⟩
    · have arr : Arr w' B cs ∧ 0 < cs.length ∧ cs.length ≤ 1048576 := by
        rcases ho with ⟨e, -⟩ | ⟨e, -⟩ | ⟨e, -⟩
        · injection e with e
          injection e with e1 e2
          subst e1; subst e2
          exact ⟨L.a1, FF.out.k0, FF.out.k9⟩
        · exact ⟨L.a2 _ _ e.symm, FF.out.j0 _ _ e.symm, FF.out.j9 _ _ e.symm⟩
        · cases e
      have HA := Lib.hid arr
      clear ho hb L arr
      rw [show arrV (some (B, cs)) = .slice (some ⟨B, 0, none⟩) cs.length cs.length from rfl]
      obtain ⟨k, hk⟩ : ∃ k, cs.length = k := ⟨_, rfl⟩
      have HK := Lib.hid hk
      rw [hk]
      clear hk
      go_wp2_with fail
      go_at_call 48
      refine (chain_any w' B k s hs (by rw [← HK.out]; exact HA.out.2.1) (by rw [← HK.out]; exact HA.out.2.2)).mono ?_
      rintro e w'' ⟨rfl, rfl⟩
      obtain ⟨j, hj⟩ : ∃ j, slotOf k s.data.toList = j := ⟨_, rfl⟩
      have HJ : Hid (slotOf cs.length s.data.toList = j) := by show slotOf cs.length s.data.toList = j; rw [HK.out]; exact hj
      rw [hj]
      clear hj
      have CH : Hid (Chain w'' ⟨B, j, none⟩ (chainAt cs j)) := HA.out.1.at_ (by rw [← HJ.out]; exact slotOf_lt _ _ HA.out.2.1)
      go_wp2_with fail
      go_loopg [7] (chainAt cs j).length (fun k p wr => wr = w'' ∧ ∃ pre ns, chainAt cs j = pre ++ ns ∧ ns.length = k ∧ p = .pointer (some (linkAt ⟨B, j, none⟩ pre)) ∧ ∀ y ∈ pre, y.s ≠ s.data.toList)
      case atStart => exact ⟨rfl, [], _, rfl, rfl, rfl, fun y hy => by cases hy⟩
      case round =>
        obtain ⟨rfl, pre, ns, hc, hn, rfl, hp⟩ := hrel
        have cl := CH.out
        rw [hc] at cl
        have ck := cl.link
        obtain ⟨la, hla⟩ : ∃ la, linkAt ⟨B, j, none⟩ pre = la := ⟨_, rfl⟩
        rw [hla] at ck ⊢
        have HC := Lib.hid (And.intro hc (And.intro hla hp))
        cases ns with
        | nil =>
          have k1 : wr.cell? la = some (.pointer none) := ck.at_
          clear hc hp hla cl ck hn
          go_wp2_with fail
          go_step3
          have gone : Gone (some (B, cs)) s.data.toList := fun B' cs' e y hy => by
            injection e with e
            injection e with e1 e2
            subst e1; subst e2
            rw [show sl cs s.data.toList = j from HJ.out, HC.out.1, List.append_nil] at hy
            exact HC.out.2.2 y hy
          refine ⟨rfl, ⟨HB.out, o2, none, _, _, _, _, _, _, _, _, _, _, _, _, _, _, _, _, _, _, _, _, _, _, _, _, _, _, _, _, _, _, _, _, _, _, rfl, ?_⟩, ?_⟩
          · rcases HO.out with ⟨e, e'⟩ | ⟨e, e', g⟩ | ⟨e, -⟩
            · injection e with e
              injection e with e1 e2
              subst e1; subst e2
              exact .inr (.inl ⟨e', rfl, gone⟩)
            · subst e'
              exact .inr (.inr ⟨rfl, rfl, g, by rw [← e]; exact gone⟩)
            · cases e
          · show full (arrV o2) + 0 < 1 + full (arrV o2)
            omega
        | cons x r =>
          have k1 : wr.cell? la = some (.pointer (some ⟨x.b, 0, none⟩)) := ck.at_
          have k2 := ck.seg.1.name
          obtain ⟨nm, hnm⟩ : ∃ nm : ByteArray, (⟨x.s.toArray⟩ : ByteArray) = nm := ⟨_, rfl⟩
          rw [hnm] at k2
          have NM : Hid (nm.data.toList = x.s) := by show nm.data.toList = x.s; rw [← hnm]
          obtain ⟨xb, hxb⟩ : ∃ b, x.b = b := ⟨_, rfl⟩
          have HX := Lib.hid hxb
          rw [hxb] at k1 k2
          have HN : Hid (r.length < gk) := by show r.length < gk; rw [← hn]; simp
          clear hc hp hla cl ck hn hnm hxb
          cases e : (nm.toList == s.toList)
          · have e' : nm.toList ≠ s.toList := beq_eq_false_iff_ne.1 e
            have E := Lib.hid e'
            clear e'
            go_wp2_with fail
            go_roundg r.length
            case measure => exact HN.out
            case rel => exact ⟨rfl, pre ++ [x], r, by rw [HC.out.1, List.append_assoc]; rfl, rfl, by rw [linkAt_snoc, HX.out], fun y hy => by
              rcases List.mem_append.1 hy with h | h
              · exact HC.out.2.2 y h
              · rw [List.mem_singleton.1 h, ← NM.out, ← ByteArray.toList_eq, ← ByteArray.toList_eq]; exact E.out⟩
          · have e' : nm.toList = s.toList := beq_iff_eq.1 e
            have E := Lib.hid e'
            clear e'
            go_wp2_with fail
            simp only [Exit.jump]
            go_ret
            have ths : There (some (B, cs)) s.data.toList (.pointer (some la)) := ⟨B, cs, pre, x, r, rfl, by rw [show sl cs s.data.toList = j from HJ.out]; exact HC.out.1, by rw [← NM.out, ← ByteArray.toList_eq, ← ByteArray.toList_eq]; exact E.out, by rw [show sl cs s.data.toList = j from HJ.out, HC.out.2.1]⟩
            refine ⟨HB.out, .inr ⟨_, rfl, ?_⟩⟩
            rcases HO.out with ⟨e, -⟩ | ⟨e, -⟩ | ⟨e, -⟩
            · rw [← e]; exact .inl ths
            · rw [← e]; exact .inr ths
            · cases e
end Go.Proofs.Ytedpanfdkdbblaa
