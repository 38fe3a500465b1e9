/- The document's own Outer: has, Builtin, a state in memory. -/
import Derived.Test.YteakhlnnepjhpaaScUx
import Derived.Test.YteakhlnnepjhpaaScOx
import Derived.Test.YteakhlnnepjhpaaSdAx
namespace Go.Proofs.Yteakhlnnepjhpaa
open Go.RowKit PrM
set_option linter.unusedVariables false
set_option linter.unusedSimpArgs false
/-- A slice that reads as texts. -/
def Txs (w : World) (v : Value) (ts : List ByteArray) : Prop := ∃ A c, v = .slice A ts.length c ∧ ts.length ≤ c ∧ ∀ i (h : i < ts.length), ∃ p, A = some p ∧ w.cell? (p.add i) = some (.string ts[i])
theorem Txs.of_strs {w : World} {P : Nat → Prop} {v : Value} {l : List ByteArray} (h : Strs w P v l) : Txs w v l := by
 obtain ⟨A, c, rfl, h0, hc, hr⟩ := h
 refine ⟨A, c, rfl, hc, fun i hi => ?_⟩
 obtain ⟨p, e, -, -, k⟩ := hr i hi
 exact ⟨p, e, k⟩
theorem Txs.of_own {w : World} {B : Nat} {v : Value} {l : List ByteArray} (h : w.ownsRow B 9 1 v l.length (l.map .string)) : Txs w v l := by
 have h1 := h.1
 rcases h.2 with ⟨rfl, h0⟩ | ⟨p, cap, cur, rfl, hp, hb, r⟩
 ·have : l = [] := List.eq_nil_of_length_eq_zero (by simpa using h0)
  subst this
  exact ⟨none, 0, rfl, Nat.le_refl _, fun i hi => absurd hi (Nat.not_lt_zero _)⟩
 ·have hn := r.1
  refine ⟨some ⟨p, 0, none⟩, cap, rfl, hn, fun i hi => ⟨_, rfl, ?_⟩⟩
  exact World.ownsRow.cells h rfl i _ (by rw [List.getElem?_map, List.getElem?_eq_getElem hi]; rfl)
theorem has_next (l : List ByteArray) (s : ByteArray) (i : Nat) (h : i < l.length) : ScM.has (l.take (i + 1)) s = (ScM.has (l.take i) s || ScM.is s l[i]) := by
 unfold ScM.has
 rw [List.take_succ_eq_append_getElem h, List.any_append, List.any_cons, List.any_nil, Bool.or_false]
set_option maxRecDepth 20000 in
set_option maxHeartbeats 2000000 in
/-- has. -/
theorem rhas {w : World} {v : Value} {ts : List ByteArray} (h : Txs w v ts) (s : ByteArray) (hb : ts.length ≤ 1000000000000) :
  Calls Try.prog 21 #[v, .string s] w fun e w' => e = .returned (.bool (ScM.has ts s)) ∧ w = w' := by
 obtain ⟨A, c, rfl, hc, hx⟩ := h
 obtain ⟨n, en⟩ : ∃ n, ts.length = n := ⟨_, rfl⟩
 have EN := Lib.hid en
 have HX := Lib.hid hx
 obtain ⟨av, hav⟩ : ∃ av, ScM.has ts s = av := ⟨_, rfl⟩
 rw [hav, en]
 rw [en] at hc hb
 have HAV := Lib.hid hav
 have c0 : (n : Int) ≤ (c : Int) := by omega
 have c1 : (n : Int) ≤ 1000000000000 := by omega
 have c2 : (0 : Int) ≤ (n : Int) := by omega
 clear hx hav en hc hb
 go_enter Try.func21, Try.ntmps21
 go_wp2_with fail
 go_loopw [5] (fun i wr => ∃ j : Nat, j ≤ n ∧ i = .int .i64 j ∧ ScM.has (ts.take j) s = false ∧ wr = w) (fun i _ => n - (intOf i).toNat)
 case atStart => exact ⟨0, Nat.zero_le _, rfl, rfl, rfl⟩
 case round =>
  obtain ⟨j, hj, rfl, hall, hwr⟩ := hrel
  obtain rfl := hwr
  have HA := Lib.hid hall
  have j0 : (0 : Int) ≤ (j : Int) := by omega
  clear hall
  by_cases hlt : j < n
  ·have j1 : (j : Int) < (n : Int) := by omega
   have wk1 : wrap64 ((j : Int) + 1) = ((j + 1 : Nat) : Int) := by unfold wrap64; omega
   have hjl : j < ts.length := by rw [EN.out]; exact hlt
   obtain ⟨p, rfl, cj⟩ := HX.out j hjl
   have NX := Lib.hid (has_next ts s j hjl)
   have FU := Lib.hid (show ts[j].data.toList = s.data.toList → ScM.has ts s = true by
    intro e
    unfold ScM.has
    rw [List.any_eq_true]
    exact ⟨_, List.getElem_mem hjl, decide_eq_true e.symm⟩)
   obtain ⟨t, et⟩ : ∃ t, ts[j] = t := ⟨_, rfl⟩
   rw [et] at cj NX FU
   clear et
   cases hb : (t.toList == s.toList)
   ·have HB := Lib.hid hb
    go_wp2_with fail
    refine ⟨⟨j + 1, hlt, by first | rfl | rw [wk1], ?_, trivial⟩, by simp [intOf]; omega⟩
    rw [NX.out, HA.out, Bool.false_or]
    have hx := HB.out
    rw [Go.ByteArray.toList_eq, Go.ByteArray.toList_eq, beq_eq_false_iff_ne] at hx
    exact decide_eq_false fun e => hx e.symm
   ·have HB := Lib.hid hb
    go_wp2_with fail
    go_ret
    have hx := HB.out
    rw [Go.ByteArray.toList_eq, Go.ByteArray.toList_eq, beq_iff_eq] at hx
    exact ⟨by rw [← HAV.out, FU.out hx]; rfl, rfl⟩
  ·obtain rfl : j = n := by omega
   go_wp2_with fail
   go_ret
   have k := HA.out
   rw [List.take_of_length_le (by rw [EN.out]; exact Nat.le_refl _)] at k
   exact ⟨by rw [← HAV.out, k]; rfl, rfl⟩
set_option maxRecDepth 20000 in
set_option maxHeartbeats 4000000 in
/-- Builtin. -/
theorem rbuiltin_any (s : ByteArray) (w : World) :
  Calls Try.prog 10 #[.string s] w fun e w' => e = .returned (.bool (ScM.builtin s)) ∧ Below w.heap.size w w' := by
 have HT : Hid (∀ C, C = (ScM.builtins.map Value.string).toArray → Tx (w.alloc (.cells C 9)) w.heap.size ScM.builtins) := fun C hC => tx_new w ScM.builtins 9 C hC
 have HA : Hid (∀ b w, Tx w b ScM.builtins → Calls Try.prog 21 #[.slice (some ⟨b, 0, none⟩) 22 22, .string s] w fun e w' => e = .returned (.bool (ScM.builtin s)) ∧ w = w') := fun b w h => rhas (v := .slice (some ⟨b, 0, none⟩) 22 22) (ts := ScM.builtins) ⟨_, _, rfl, by decide, fun i hi => ⟨_, rfl, by have k := h i hi; cases i with | zero => exact k | succ j => simpa [Addr.add] using k⟩⟩ s (by decide)
 obtain ⟨av, hav⟩ : ∃ av, ScM.builtin s = av := ⟨_, rfl⟩
 rw [hav] at HA ⊢
 clear hav
 go_enter Try.func10, Try.ntmps10
 go_wp2_with (go_at_call 21; refine (HA.out _ _ (HT.out _ rfl)).mono ?_; rintro e w' ⟨rfl, rfl⟩)
 go_ret
 exact ⟨rfl, (Below.refl _ _).alloc (Nat.le_refl _) _⟩
/-- The document's state at block g: names that are there, names from around; its rows lie in blocks from B on. -/
structure WO (w : World) (B g : Nat) (vn vo : Value) (st : ScM.Sc) : Prop where
 blk : Blk w g #[vn, vo] 72
 names : w.ownsRow B 9 1 vn st.names.length (st.names.map .string)
 outer : w.ownsRow B 9 1 vo st.outer.length (st.outer.map .string)
 apart : ∀ q, vn.ownBlock = some q → vo.ownBlock ≠ some q
 hg : B ≤ g
 nlen : st.names.length ≤ st.ct
 olen : st.outer.length ≤ st.ct
 max : st.ct ≤ 1000000000000
def WQ (w : World) (B g : Nat) (st : ScM.Sc) : Prop := ∃ vn vo, WO w B g vn vo st
/-- What a call on it leaves: all below B; blocks of cells but for texts and such states. -/
structure Ko (B : Nat) (w w' : World) : Prop where
 bel : Below B w w'
 blk : ∀ k cs ty, Blk w k cs ty → ty ≠ 72 → ty ≠ 9 → Blk w' k cs ty
section
variable {w w' w'' : World} {B g : Nat} {vn vo : Value} {st : ScM.Sc}
theorem Ko.refl (B : Nat) (w : World) : Ko B w w := ⟨Below.refl _ _, fun _ _ _ h _ _ => h⟩
theorem Ko.trans (h : Ko B w w') (k : Ko B w' w'') : Ko B w w'' := ⟨h.bel.trans k.bel, fun q cs ty a x y => k.blk q cs ty (h.blk q cs ty a x y) x y⟩
theorem Ko.of_below (h : Below w.heap.size w w') (hB : B ≤ w.heap.size) : Ko B w w' := ⟨h.mono hB, fun q cs ty a _ _ => a.keep h⟩
theorem Ko.drew (h : Ko B w w') : Ko B w w'.drew := ⟨h.bel.drew, h.blk⟩
theorem WO.keep (h : WO w B g vn vo st) (b : Below w.heap.size w w') : WO w' B g vn vo st :=
 {h with
  blk := h.blk.keep b
  names := own_same h.names fun q e => b.block q (own_lt h.names q e).2
  outer := own_same h.outer fun q e => b.block q (own_lt h.outer q e).2 }
theorem WO.drew (h : WO w B g vn vo st) : WO w.drew B g vn vo st := { h with blk := h.blk, names := h.names, outer := h.outer }
theorem WO.base (h : WO w B g vn vo st) : B ≤ w.heap.size := by have := h.hg; have := h.blk.lt; omega
theorem WQ.base (h : WQ w B g st) : B ≤ w.heap.size := by obtain ⟨_, _, h⟩ := h; exact h.base
theorem WQ.keep (h : WQ w B g st) (b : Below w.heap.size w w') : WQ w' B g st := by obtain ⟨_, _, h⟩ := h; exact ⟨_, _, h.keep b⟩
theorem koMoves {P : Nat → Prop} (k : Ko B w w') (hP : ∀ q, P q → q < B) : Moves w w' P P := ⟨k.bel.size, fun p hp _ => World.cell?_of_block (k.bel.block _ (hP _ hp)), fun _ h _ => h⟩
theorem Sl.ko {P : Nat → Prop} {x : X} {z : Nat} {v : Value} (h : Sl x.len (Rd w P x).row z v) (k : Ko B w w') (hP : ∀ q, P q → q < B) : Sl x.len (Rd w' P x).row z v := h.imp (Rd.move (koMoves k hP) x).2.1
theorem Strs.ko {P : Nat → Prop} {l : List ByteArray} {v : Value} (h : Strs w P v l) (k : Ko B w w') (hP : ∀ q, P q → q < B) : Strs w' P v l := h.move (koMoves k hP)
end
/-- What a call on it answers. -/
def OP (w : World) (B g : Nat) (st : ScM.Sc) (e : Ending) (w' : World) : Prop := e = .returned (.tuple #[]) ∧ WQ w' B g st ∧ Ko B w w'
end Go.Proofs.Yteakhlnnepjhpaa
