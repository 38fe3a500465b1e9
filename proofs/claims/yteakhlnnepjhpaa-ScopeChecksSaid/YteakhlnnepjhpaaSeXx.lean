/- The document's own answer: has, Builtin; names put behind names. -/
import Derived.Test.YteakhlnnepjhpaaScUx
import Derived.Test.YteakhlnnepjhpaaScOx
import Derived.Test.YteakhlnnepjhpaaSdAx
namespace Go.Proofs.Yteakhlnnepjhpaa
open Go.RowKit PrM
set_option linter.unusedVariables false
set_option linter.unusedSimpArgs false
/-- A slice that reads as texts. -/
def Txs (w : World) (v : Value) (ts : List ByteArray) : Prop := ∃ A c, v = .slice A ts.length c ∧ ts.length ≤ c ∧ ∀ i (h : i < ts.length), ∃ p, A = some p ∧ w.cell? (p.add i) = some (.string ts[i])
theorem Txs.of_strs {w : World} {P : Nat → Prop} {v : Value} {l : List ByteArray} (h : Strs w P v l) : Txs w v l := by
 obtain ⟨A, c, rfl, h0, hc, hr⟩ := h
 refine ⟨A, c, rfl, hc, fun i hi => ?_⟩
 obtain ⟨p, e, -, -, k⟩ := hr i hi
 exact ⟨p, e, k⟩
theorem Txs.of_own {w : World} {B : Nat} {v : Value} {l : List ByteArray} (h : w.ownsRow B 9 1 v l.length (l.map .string)) : Txs w v l := by
 have h1 := h.1
 rcases h.2 with ⟨rfl, h0⟩ | ⟨p, cap, cur, rfl, hp, hb, r⟩
 ·have : l = [] := List.eq_nil_of_length_eq_zero (by simpa using h0)
  subst this
  exact ⟨none, 0, rfl, Nat.le_refl _, fun i hi => absurd hi (Nat.not_lt_zero _)⟩
 ·have hn := r.1
  refine ⟨some ⟨p, 0, none⟩, cap, rfl, hn, fun i hi => ⟨_, rfl, ?_⟩⟩
  exact World.ownsRow.cells h rfl i _ (by rw [List.getElem?_map, List.getElem?_eq_getElem hi]; rfl)
theorem has_next (l : List ByteArray) (s : ByteArray) (i : Nat) (h : i < l.length) : ScM.has (l.take (i + 1)) s = (ScM.has (l.take i) s || ScM.is s l[i]) := by
 unfold ScM.has
 rw [List.take_succ_eq_append_getElem h, List.any_append, List.any_cons, List.any_nil, Bool.or_false]
set_option maxRecDepth 20000 in
set_option maxHeartbeats 2000000 in
/-- has. -/
theorem rhas {w : World} {v : Value} {ts : List ByteArray} (h : Txs w v ts) (s : ByteArray) (hb : ts.length ≤ 1000000000000) :
  Calls Try.prog 21 #[v, .string s] w fun e w' => e = .returned (.bool (ScM.has ts s)) ∧ w = w' := by
 obtain ⟨A, c, rfl, hc, hx⟩ := h
 obtain ⟨n, en⟩ : ∃ n, ts.length = n := ⟨_, rfl⟩
 have EN := Lib.hid en
 have HX := Lib.hid hx
 obtain ⟨av, hav⟩ : ∃ av, ScM.has ts s = av := ⟨_, rfl⟩
 rw [hav, en]
 rw [en] at hc hb
 have HAV := Lib.hid hav
 have c0 : (n : Int) ≤ (c : Int) := by omega
 have c1 : (n : Int) ≤ 1000000000000 := by omega
 have c2 : (0 : Int) ≤ (n : Int) := by omega
 clear hx hav en hc hb
 go_enter Try.func21, Try.ntmps21
 go_wp2_with fail
 go_loopw [5] (fun i wr => ∃ j : Nat, j ≤ n ∧ i = .int .i64 j ∧ ScM.has (ts.take j) s = false ∧ wr = w) (fun i _ => n - (intOf i).toNat)
 case atStart => exact ⟨0, Nat.zero_le _, rfl, rfl, rfl⟩
 case round =>
  obtain ⟨j, hj, rfl, hall, hwr⟩ := hrel
  obtain rfl := hwr
  have HA := Lib.hid hall
  have j0 : (0 : Int) ≤ (j : Int) := by omega
  clear hall
  by_cases hlt : j < n
  ·have j1 : (j : Int) < (n : Int) := by omega
   have wk1 : wrap64 ((j : Int) + 1) = ((j + 1 : Nat) : Int) := by unfold wrap64; omega
   have hjl : j < ts.length := by rw [EN.out]; exact hlt
   obtain ⟨p, rfl, cj⟩ := HX.out j hjl
   have NX := Lib.hid (has_next ts s j hjl)
   have FU := Lib.hid (show ts[j].data.toList = s.data.toList → ScM.has ts s = true by
    intro e
    unfold ScM.has
    rw [List.any_eq_true]
    exact ⟨_, List.getElem_mem hjl, decide_eq_true e.symm⟩)
   obtain ⟨t, et⟩ : ∃ t, ts[j] = t := ⟨_, rfl⟩
   rw [et] at cj NX FU
   clear et
   cases hb : (t.toList == s.toList)
   ·have HB := Lib.hid hb
    go_wp2_with fail
    refine ⟨⟨j + 1, hlt, by first | rfl | rw [wk1], ?_, trivial⟩, by simp [intOf]; omega⟩
    rw [NX.out, HA.out, Bool.false_or]
    have hx := HB.out
    rw [Go.ByteArray.toList_eq, Go.ByteArray.toList_eq, beq_eq_false_iff_ne] at hx
    exact decide_eq_false fun e => hx e.symm
   ·have HB := Lib.hid hb
    go_wp2_with fail
    go_ret
    have hx := HB.out
    rw [Go.ByteArray.toList_eq, Go.ByteArray.toList_eq, beq_iff_eq] at hx
    exact ⟨by rw [← HAV.out, FU.out hx]; rfl, rfl⟩
  ·obtain rfl : j = n := by omega
   go_wp2_with fail
   go_ret
   have k := HA.out
   rw [List.take_of_length_le (by rw [EN.out]; exact Nat.le_refl _)] at k
   exact ⟨by rw [← HAV.out, k]; rfl, rfl⟩
set_option maxRecDepth 20000 in
set_option maxHeartbeats 4000000 in
/-- Builtin. -/
theorem rbuiltin_any (s : ByteArray) (w : World) :
  Calls Try.prog 10 #[.string s] w fun e w' => e = .returned (.bool (ScM.builtin s)) ∧ Below w.heap.size w w' := by
 have HT : Hid (∀ C, C = (ScM.builtins.map Value.string).toArray → Tx (w.alloc (.cells C 9)) w.heap.size ScM.builtins) := fun C hC => tx_new w ScM.builtins 9 C hC
 have HA : Hid (∀ b w, Tx w b ScM.builtins → Calls Try.prog 21 #[.slice (some ⟨b, 0, none⟩) 22 22, .string s] w fun e w' => e = .returned (.bool (ScM.builtin s)) ∧ w = w') := fun b w h => rhas (v := .slice (some ⟨b, 0, none⟩) 22 22) (ts := ScM.builtins) ⟨_, _, rfl, by decide, fun i hi => ⟨_, rfl, by have k := h i hi; cases i with | zero => exact k | succ j => simpa [Addr.add] using k⟩⟩ s (by decide)
 obtain ⟨av, hav⟩ : ∃ av, ScM.builtin s = av := ⟨_, rfl⟩
 rw [hav] at HA ⊢
 clear hav
 go_enter Try.func10, Try.ntmps10
 go_wp2_with (go_at_call 21; refine (HA.out _ _ (HT.out _ rfl)).mono ?_; rintro e w' ⟨rfl, rfl⟩)
 go_ret
 exact ⟨rfl, (Below.refl _ _).alloc (Nat.le_refl _) _⟩
theorem append_none (w : World) (t e ty : TypeId) (i : TypeInfo) (ht : Try.prog.underlying t = some (.slice e)) (hi : Try.prog.info? e = some i) (v : Value) (a : Addr) (hv : ∃ A n c, v = .slice A n c ∧ n ≤ c) :
  (Builtin.append_ #[t, t] ty #[v, .slice none 0 0]).run Try.prog w = (Builtin.append_ #[t, t] ty #[v, .slice (some a) 0 0]).run Try.prog w := by
 obtain ⟨A, n, c, rfl, hn⟩ := hv
 simp [Builtin.append_, run_underlying ht, sizeOf, typeInfo, hi, Builtin.lenOf, Builtin.firstCells, loadCells, loadCellsFrom, hn]
/-- append of names to names of one's own. -/
theorem run_append_names (w : World) (ty : TypeId) (B : Nat) (v : Value) (l : List ByteArray) (hown : w.ownsRow B 9 1 v l.length (l.map Value.string)) (u : Value) (xs : List ByteArray) (hu : Txs w u xs) (h0 : ∀ c, u = .slice none 0 c → c = 0) (hl : l.length + xs.length ≤ 1000000000000) (hb : B ≤ w.heap.size) :
  ∃ v' w', (Builtin.append_ #[33, 33] ty #[v, u]).run Try.prog w = .ok v' w' ∧ w'.ownsRow B 9 1 v' (l ++ xs).length ((l ++ xs).map Value.string) ∧ w.grownBy w' v.ownBlock ∧ (v'.ownBlock = v.ownBlock ∨ v'.ownBlock = some w.heap.size) := by
 obtain ⟨i, hi, hz, k1, k2⟩ := info_parts infoT9
 obtain ⟨A, c, rfl, hc, hx⟩ := hu
 rw [List.length_append, List.map_append]
 cases A with
 | some p =>
  obtain ⟨v', w', hrun, h2, h3, _, h5⟩ := run_append_own_at (P := Try.prog) w B 33 ty 9 i _ 1 16 Try.underlying33 hi hz k1 k2 rfl (by decide) v l.length (l.map Value.string) hown p xs.length c (xs.map Value.string) (by simp) (fun j y hj => by
   rw [List.getElem?_map] at hj
   obtain ⟨b, hb, rfl⟩ := Option.map_eq_some_iff.1 hj
   obtain ⟨hlt, e⟩ := List.getElem?_eq_some_iff.1 hb
   obtain ⟨q, e2, k⟩ := hx j hlt
   obtain rfl := Option.some.inj e2
   rw [k, e]) (fun u hu => by
   obtain ⟨b, _, rfl⟩ := List.mem_map.1 hu
   rfl) (by unfold maxLen; omega) (by omega) hb
  exact ⟨v', w', hrun, h2, h3, h5⟩
 | none =>
  have e0 : xs = [] := by
   cases xs with
   | nil => rfl
   | cons a r =>
    obtain ⟨q, e, -⟩ := hx 0 (Nat.succ_pos _)
    cases e
  subst e0
  obtain rfl := h0 c rfl
  obtain ⟨v', w', hrun, h2, h3, _, h5⟩ := run_append_own_at (P := Try.prog) w B 33 ty 9 i _ 1 16 Try.underlying33 hi hz k1 k2 rfl (by decide) v l.length (l.map Value.string) hown ⟨0, 0, none⟩ 0 0 [] rfl (fun j y hj => by simp at hj) (fun u hu => by simp at hu) (by unfold maxLen; omega) (by omega) hb
  refine ⟨v', w', ?_, h2, h3, h5⟩
  have hv : ∃ A n c, v = .slice A n c ∧ n ≤ c := by
   rcases hown.2 with ⟨rfl, -⟩ | ⟨g, cap, cur, rfl, -, -, hn, -⟩
   ·exact ⟨_, _, _, rfl, Nat.le_refl _⟩
   ·exact ⟨_, _, _, rfl, hn⟩
  exact (append_none w _ _ ty i Try.underlying33 hi v ⟨0, 0, none⟩ hv).trans hrun
theorem wpList_append_names {w : World} {ops : Array Oper} {rest : List Oper} {o : Oper} {a : Act} {Q : Exit → Act → World → Prop} (hgd : o.guard = none) (s x : Operand)
  (ho : o.op = .call { callee := .builtin .append, args := #[s, x], argTypes := #[33, 33] })
  (B : Nat) (v : Value) (l : List ByteArray) (hs : a.eval s = v) (hown : w.ownsRow B 9 1 v l.length (l.map Value.string)) (u : Value) (xs : List ByteArray) (hx : a.eval x = u) (hu : Txs w u xs) (h0 : ∀ c, u = .slice none 0 c → c = 0) (hl : l.length + xs.length ≤ 1000000000000) (hb : B ≤ w.heap.size)
  (h : ∀ v' w', w'.ownsRow B 9 1 v' (l ++ xs).length ((l ++ xs).map Value.string) → w.grownBy w' v.ownBlock → (v'.ownBlock = v.ownBlock ∨ v'.ownBlock = some w.heap.size) → wpList Try.prog ops Q rest (a.put o.dst v') w') :
  wpList Try.prog ops Q (o :: rest) a w := by
 refine wpList_plain hgd fun K hK => ?_
 obtain ⟨v', w', hr, h2, h3, h5⟩ := run_append_names w o.type B v l hown u xs hu h0 hl hb
 unfold Oper.wp execOp
 simp only [ho, resolve, invoke, builtin, Sem.run_bind, Sem.run_pure, Result.andThen_ok, List.map_toArray, List.map_cons, List.map_nil, hs, hx, hr]
 exact hK _ _ (h v' w' h2 h3 h5)
/-- Fewer again: the row's beginning. -/
theorem own_front {w : World} {B n : Nat} {A : Option Addr} {c : Nat} {l ds : List ByteArray} (h : w.ownsRow B 9 1 (.slice A n c) n ((l ++ ds).map .string)) (hl : A = none → l = []) : w.ownsRow B 9 1 (.slice A l.length c) l.length (l.map .string) := by
 have h1 := h.1
 rw [List.length_map, List.length_append, Nat.mul_one] at h1
 rcases h.2 with ⟨e, h0⟩ | ⟨p, cap, cur, e, hp, hb, hn, hc, hs, ht⟩
 ·injection e with e1 e2 e3
  subst e1 e3
  obtain rfl := hl rfl
  exact World.ownsRow_nil w B _ _
 ·injection e with e1 e2 e3
  subst e1 e3
  refine ⟨by simp, .inr ⟨p, _, cur, rfl, hp, hb, by omega, hc, hs, ?_⟩⟩
  have e : (l ++ ds).map Value.string = l.map Value.string ++ ds.map Value.string := List.map_append
  rw [e] at ht
  have e2 : (l.map Value.string ++ ds.map Value.string).take (l.length * 1) = l.map Value.string := by
   rw [Nat.mul_one]
   have : (l.map Value.string).length = l.length := List.length_map ..
   rw [← this]
   exact List.take_left
  rw [← e2, ← ht, List.take_take, Nat.min_eq_left (by omega)]
end Go.Proofs.Yteakhlnnepjhpaa
