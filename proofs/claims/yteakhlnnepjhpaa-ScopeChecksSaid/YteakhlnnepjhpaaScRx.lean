/- Package scope: a walker in memory: its stack of names, how many of them are called so, the names from around. -/
import Derived.Test.YteakhlnnepjhpaaScNx
import Derived.Test.YteakhlnnepjhpaaKa
import Derived.Maps.OwnSet
import Derived.Maps.StringElems
namespace Go.Proofs.Yteakhlnnepjhpaa
open Go.RowKit Go.Maps
set_option linter.unusedVariables false
set_option linter.unusedSimpArgs false
/-- An item of a stack: a name (kind 0), or a beginning. -/
structure It where
 kind : Int
 name : ByteArray
 own : Int
 loops : Int
def nm (s : ByteArray) : It := ⟨0, s, 0, 0⟩
def ics (a : It) : Array Value := #[.int .i64 a.kind, .string a.name, .int .i64 a.own, .int .i64 a.loops]
def icells : List It → List Value
 | [] => []
 | a :: r => (ics a).toList ++ icells r
theorem icells_length : ∀ l : List It, (icells l).length = l.length * 4
 | [] => rfl
 | a :: r => by simp [icells, ics, icells_length r]; omega
theorem icells_append : ∀ a b : List It, icells (a ++ b) = icells a ++ icells b
 | [], b => rfl
 | a :: r, b => by simp [icells, icells_append r b]
theorem ics_one (t : It) : ∀ y ∈ (ics t).toList, y.oneCell' = true := by
 intro y hy
 simp [ics] at hy
 rcases hy with rfl | rfl | rfl | rfl <;> rfl
/-- The names on a stack. -/
def vis : List It → List ByteArray
 | [] => []
 | a :: r => if a.kind = 0 then a.name :: vis r else vis r
theorem vis_append : ∀ a b : List It, vis (a ++ b) = vis a ++ vis b
 | [], b => rfl
 | a :: r, b => by
  simp only [List.cons_append, vis]
  split
  ·rw [vis_append r b]; rfl
  ·exact vis_append r b
theorem vis_nm : ∀ l : List ByteArray, vis (l.map nm) = l
 | [] => rfl
 | a :: r => by show (if (0 : Int) = 0 then a :: vis (r.map nm) else _) = _; rw [if_pos rfl, vis_nm r]
/-- How many are called so. -/
def cntB (l : List ByteArray) (s : List UInt8) : Nat := l.countP fun x => decide (s = x.data.toList)
theorem has_cnt (l : List ByteArray) (s : ByteArray) : ScM.has l s = decide (0 < cntB l s.data.toList) := by
 rw [Bool.eq_iff_iff, decide_eq_true_eq, cntB, List.countP_pos_iff]
 unfold ScM.has ScM.is
 rw [List.any_eq_true]
theorem cntB_append (a b : List ByteArray) (s : List UInt8) : cntB (a ++ b) s = cntB a s + cntB b s := List.countP_append
theorem cntB_le (l : List ByteArray) (s : List UInt8) : cntB l s ≤ l.length := List.countP_le_length
theorem cntB_one (x : ByteArray) (s : List UInt8) : cntB [x] s = if x.data.toList = s then 1 else 0 := by
 unfold cntB
 by_cases h : x.data.toList = s
 ·rw [if_pos h, ← h]; simp
 ·rw [if_neg h, List.countP_eq_zero]
  intro a ha
  simp at ha
  subst ha
  simp
  exact fun e => h e.symm
theorem vis_le (l : List It) : (vis l).length ≤ l.length := by
 induction l with
 | nil => exact Nat.le_refl _
 | cons a r ih =>
  simp only [vis]
  split
  ·simp only [List.length_cons]; omega
  ·simp only [List.length_cons]; omega
theorem skey : Keyed Try.prog 9 := string_keyed Try.underlying9
theorem tmap : Try.prog.underlying 57 = some (.map 9 3) := Try.underlying57
theorem tset : Try.prog.underlying 60 = some (.map 9 105) := Try.underlying60
def heldR (v : Value) : Option (DataW Value × List MemPlace) := some (.held v, [])
def zeroI : Value := .int .i64 0
theorem zeroInt (w : World) : (zeroValue 3).run Try.prog w = .ok zeroI w := by kernel_rfl
theorem zeroU (w : World) : (zeroValue 105).run Try.prog w = .ok (.agg #[]) w := by kernel_rfl
theorem keyLit (s : List UInt8) : WideAt.IsKeyLit (.string s) := by simp [WideAt.IsKeyLit]
theorem skey_of (s : ByteArray) (hs : s.size ≤ maxLen) : keyOf Try.prog 9 (.string s) = some (.string s.data.toList) := WideMaps.keyOf_string_mk Try.underlying9 hs
def valAt (D : DataW Value) (s : List UInt8) : Value := match D.atKey (.string s) (.held zeroI) with | .held v => v | _ => zeroI
theorem valAt_none {D : DataW Value} {s : List UInt8} (h : has D (.string s) = false) : valAt D s = zeroI := by
 rw [valAt, atKey_of_not_has h]
theorem valAt_put {D : DataW Value} (h : Tidy D) (s t : List UInt8) (v : Value) : valAt (D.put (.string s) (.held v)) t = if s = t then v else valAt D t := by
 unfold valAt
 by_cases e : s = t
 ·subst e
  rw [atKey_put_same h.isMap (keyLit _), if_pos rfl]
 ·rw [atKey_put_other (fun x => e (by injection x with y; exact y.symm)), if_neg e]
/-- The map of counts: at most n entries, what each name has. -/
def Cnt (w : World) (b n : Nat) (l : List ByteArray) : Prop := ∃ D m, w.ownsMap Try.prog 9 heldR b m D ∧ m ≤ n ∧ ∀ s, valAt D s = .int .i64 (cntB l s : Nat)
section
variable {w w' : World} {b n m : Nat} {l : List ByteArray}
theorem Cnt.same (h : Cnt w b n l) (k : w'.heap[b]? = w.heap[b]?) : Cnt w' b n l := by
 obtain ⟨D, m, ⟨es, clock, hb, r⟩, r2⟩ := h
 exact ⟨D, m, ⟨es, clock, k.trans hb, r⟩, r2⟩
theorem Cnt.wide (h : Cnt w b n l) (k : n ≤ m) : Cnt w b m l := by
 obtain ⟨D, q, h1, h2, h3⟩ := h
 exact ⟨D, q, h1, by omega, h3⟩
theorem Cnt.lt (h : Cnt w b n l) : b < w.heap.size := by
 obtain ⟨D, q, h1, -⟩ := h
 exact World.ownsMap.lt h1
theorem Cnt.look (h : Cnt w b n l) (s : ByteArray) (hs : s.size ≤ maxLen) : (Instr.lookup 57 (.map (some b)) (.string s) false).run Try.prog w = .ok (.int .i64 (cntB l s.data.toList : Nat)) w := by
 obtain ⟨D, q, h1, -, h3⟩ := h
 obtain ⟨v, ps, hrun, hv⟩ := World.ownsMap.lookup h1 skey tmap (zeroInt w) (zd := .held zeroI) (zp := []) rfl (skey_of s hs)
 rw [hrun, ← h3]
 unfold valAt
 simp only [heldR, Option.some.injEq, Prod.mk.injEq] at hv
 rw [← hv.1]
theorem Cnt.store {l' : List ByteArray} (h : Cnt w b n l) (s : ByteArray) (hs : s.size ≤ maxLen) (hn : n < maxLen) (v : Nat) (e : ∀ t, cntB l' t = if s.data.toList = t then v else cntB l t) :
  ∃ w', (Instr.mapUpdate 57 (.map (some b)) (.string s) (.int .i64 (v : Nat))).run Try.prog w = .ok () w' ∧ Cnt w' b (n + 1) l' ∧ w.grownBy w' (some b) := by
 obtain ⟨D, q, h1, h2, h3⟩ := h
 obtain ⟨w', hrun, ho, hg⟩ := World.ownsMap.store h1 skey tmap (by omega) (skey_of s hs) (val := .int .i64 (v : Nat)) (d := .held (.int .i64 (v : Nat))) (ps := []) rfl
 refine ⟨w', hrun, ⟨_, _, ho, by omega, fun t => ?_⟩, hg.grown⟩
 rw [valAt_put (World.ownsMap.tidy h1 skey), e, h3]
 split <;> rfl
/-- .. of a name that has been laid down: no entry more. -/
theorem Cnt.again {l' : List ByteArray} (h : Cnt w b n l) (s : ByteArray) (hs : s.size ≤ maxLen) (hn : n < maxLen) (v : Nat) (hp : 0 < cntB l s.data.toList) (e : ∀ t, cntB l' t = if s.data.toList = t then v else cntB l t) :
  ∃ w', (Instr.mapUpdate 57 (.map (some b)) (.string s) (.int .i64 (v : Nat))).run Try.prog w = .ok () w' ∧ Cnt w' b n l' ∧ w.grownBy w' (some b) := by
 obtain ⟨D, q, h1, h2, h3⟩ := h
 obtain ⟨w', hrun, ho, hg⟩ := World.ownsMap.store h1 skey tmap (by omega) (skey_of s hs) (val := .int .i64 (v : Nat)) (d := .held (.int .i64 (v : Nat))) (ps := []) rfl
 have tidy := World.ownsMap.tidy h1 skey
 have hh : has D (.string s.data.toList) = true := by
  cases hq : has D (.string s.data.toList) with
  | true => rfl
  | false =>
   have k := (valAt_none hq).symm.trans (h3 s.data.toList)
   unfold zeroI at k
   simp only [Value.int.injEq, true_and] at k
   exact absurd hp (by rw [← Int.natCast_inj.1 k]; exact Nat.lt_irrefl 0)
 obtain ⟨es, clock, hb, F, hsz, hD⟩ := ho
 have h4 : es.size = Maps.size (D.put (.string s.data.toList) (.held (.int .i64 (v : Nat)))) := by rw [hD]; simp [Maps.size, length_sorted]
 refine ⟨w', hrun, ⟨_, n, ⟨es, clock, hb, F, ?_, hD⟩, Nat.le_refl _, fun t => ?_⟩, hg.grown⟩
 ·rw [h4, size_put tidy, hh]
  have := World.ownsMap.size_le h1
  simp
  omega
 ·rw [valAt_put tidy, e, h3]
  split <;> rfl
theorem cnt_new (w : World) : Cnt (w.alloc (.map #[] 0)) w.heap.size 0 [] := ⟨_, 0, World.ownsMap_made w _ _ _, Nat.le_refl _, fun _ => rfl⟩
end
/-- The set of names from around. -/
def Out (w : World) (b n : Nat) (l : List ByteArray) : Prop := ∃ D m, w.ownsMap Try.prog 9 (unitElem (H := Unit)) b m D ∧ m ≤ n ∧ ∀ s : ByteArray, has D (.string s.data.toList) = ScM.has l s
section
variable {w w' : World} {b n m : Nat} {l : List ByteArray}
theorem Out.same (h : Out w b n l) (k : w'.heap[b]? = w.heap[b]?) : Out w' b n l := by
 obtain ⟨D, m, ⟨es, clock, hb, r⟩, r2⟩ := h
 exact ⟨D, m, ⟨es, clock, k.trans hb, r⟩, r2⟩
theorem Out.wide (h : Out w b n l) (k : n ≤ m) : Out w b m l := by
 obtain ⟨D, q, h1, h2, h3⟩ := h
 exact ⟨D, q, h1, by omega, h3⟩
theorem Out.lt (h : Out w b n l) : b < w.heap.size := by
 obtain ⟨D, q, h1, -⟩ := h
 exact World.ownsMap.lt h1
theorem Out.look (h : Out w b n l) (s : ByteArray) (hs : s.size ≤ maxLen) : (Instr.lookup 60 (.map (some b)) (.string s) true).run Try.prog w = .ok (.tuple #[.agg #[], .bool (ScM.has l s)]) w := by
 obtain ⟨D, q, h1, -, h3⟩ := h
 obtain ⟨v, ps, hrun, hv⟩ := World.ownsMap.look_ok h1 skey tset (zeroU w) unitElem_mk (skey_of s hs)
 obtain ⟨rfl, _⟩ := unitElem_inv hv
 rw [hrun, h3]
theorem Out.store (h : Out w b n l) (s : ByteArray) (hs : s.size ≤ maxLen) (hn : n < maxLen) :
  ∃ w', (Instr.mapUpdate 60 (.map (some b)) (.string s) (.agg #[])).run Try.prog w = .ok () w' ∧ Out w' b (n + 1) (l ++ [s]) ∧ w.grownBy w' (some b) := by
 obtain ⟨D, q, h1, h2, h3⟩ := h
 obtain ⟨w', hrun, ho, hg⟩ := World.ownsMap.store h1 skey tset (by omega) (skey_of s hs) (val := .agg #[]) unitElem_mk
 refine ⟨w', hrun, ⟨_, _, ho, by omega, fun t => ?_⟩, hg.grown⟩
 have tidy := World.ownsMap.tidy h1 skey
 have e : ScM.has (l ++ [s]) t = (ScM.has l t || decide (t.data.toList = s.data.toList)) := by
  unfold ScM.has ScM.is
  simp
 rw [e, ← h3]
 by_cases q : t.data.toList = s.data.toList
 ·rw [q, has_put_same tidy.isMap (keyLit _)]
  simp
 ·rw [has_put_other (fun x => q (by injection x with y))]
  simp [q]
theorem out_new (w : World) : Out (w.alloc (.map #[] 0)) w.heap.size 0 [] := ⟨_, 0, World.ownsMap_made w _ _ _, Nat.le_refl _, fun _ => rfl⟩
end
theorem map_blk {w : World} {b g n : Nat} {l cs} {ty : TypeId} (h : Cnt w b n l) (k : Blk w g cs ty) : b ≠ g := fun e => by
 obtain ⟨D, m, ⟨es, clock, hb, -⟩, -⟩ := h
 subst e
 have k : w.heap[b]? = _ := k
 rw [hb] at k
 cases k
theorem out_blk {w : World} {b g n : Nat} {l cs} {ty : TypeId} (h : Out w b n l) (k : Blk w g cs ty) : b ≠ g := fun e => by
 obtain ⟨D, m, ⟨es, clock, hb, -⟩, -⟩ := h
 subst e
 have k : w.heap[b]? = _ := k
 rw [hb] at k
 cases k
theorem own_blk {w : World} {B z n g : Nat} {ty ty' : TypeId} {v : Value} {ys : List Value} {cs} (h : w.ownsRow B ty z v n ys) (k : Blk w g cs ty') (ht : ty ≠ ty') : v.ownBlock ≠ some g := fun e => by
 rcases h.2 with ⟨rfl, -⟩ | ⟨p, cap, cur, rfl, hp, hb, -⟩
 ·cases e
 ·obtain rfl : p = g := Option.some.inj e
  have k : w.heap[p]? = _ := k
  rw [hb] at k
  injection k with k
  injection k with _ k
  exact ht k
theorem own_own {w : World} {B z n z' n' : Nat} {ty ty' : TypeId} {v v' : Value} {ys ys' : List Value} (h : w.ownsRow B ty z v n ys) (k : w.ownsRow B ty' z' v' n' ys') (ht : ty ≠ ty') {q : Nat} (e : v.ownBlock = some q) : v'.ownBlock ≠ some q := by
 rcases h.2 with ⟨rfl, -⟩ | ⟨p, cap, cur, rfl, hp, hb, -⟩
 ·cases e
 ·obtain rfl : p = q := Option.some.inj e
  exact own_blk k (show Blk w p cur ty from hb) ht.symm
theorem own_map {w : World} {B z n b m : Nat} {ty : TypeId} {v : Value} {ys : List Value} {l} (h : w.ownsRow B ty z v n ys) (k : Cnt w b m l) : v.ownBlock ≠ some b := fun e => by
 rcases h.2 with ⟨rfl, -⟩ | ⟨p, cap, cur, rfl, hp, hb, -⟩
 ·cases e
 ·obtain rfl : p = b := Option.some.inj e
  exact map_blk k (show Blk w p cur ty from hb) rfl
theorem own_out {w : World} {B z n b m : Nat} {ty : TypeId} {v : Value} {ys : List Value} {l} (h : w.ownsRow B ty z v n ys) (k : Out w b m l) : v.ownBlock ≠ some b := fun e => by
 rcases h.2 with ⟨rfl, -⟩ | ⟨p, cap, cur, rfl, hp, hb, -⟩
 ·cases e
 ·obtain rfl : p = b := Option.some.inj e
  exact out_blk k (show Blk w p cur ty from hb) rfl
theorem own_same {w w' : World} {B z n : Nat} {ty : TypeId} {v : Value} {ys : List Value} (h : w.ownsRow B ty z v n ys) (k : ∀ q, v.ownBlock = some q → w'.heap[q]? = w.heap[q]?) : w'.ownsRow B ty z v n ys := by
 refine ⟨h.1, ?_⟩
 rcases h.2 with ⟨rfl, h0⟩ | ⟨p, cap, cur, rfl, hp, hb, r⟩
 ·exact .inl ⟨rfl, h0⟩
 ·exact .inr ⟨p, cap, cur, rfl, hp, (k p rfl).trans hb, r⟩
theorem own_lt {w : World} {B z n : Nat} {ty : TypeId} {v : Value} {ys : List Value} (h : w.ownsRow B ty z v n ys) (q : Nat) (e : v.ownBlock = some q) : B ≤ q ∧ q < w.heap.size := by
 rcases h.2 with ⟨rfl, h0⟩ | ⟨p, cap, cur, rfl, hp, hb, r⟩
 ·cases e
 ·obtain rfl : p = q := Option.some.inj e
  exact ⟨hp, (Array.getElem?_eq_some_iff.1 hb).1⟩
/-- What a walker's fields hold. -/
abbrev wcs (vi vo : Value) (mb ob : Nat) (st : ScM.Sc) : Array Value := #[vi, .map (some mb), .int .i64 (st.own : Int), .int .i64 (st.loops : Int), .int .i64 st.err, .int .i64 st.at_, vo, .map (some ob)]
/-- A walker at block g: its items, counts, names from around lie in blocks from B on. -/
structure WR (w : World) (B g : Nat) (vi vo : Value) (mb ob : Nat) (S : List It) (st : ScM.Sc) : Prop where
 blk : Blk w g (wcs vi vo mb ob st) 62
 items : w.ownsRow B 99 4 vi S.length (icells S)
 cnt : Cnt w mb st.ct (vis S)
 outer : w.ownsRow B 9 1 vo st.outer.length (st.outer.map .string)
 out : Out w ob st.ct st.outer
 hg : B ≤ g
 hm : B ≤ mb
 ho : B ≤ ob
 ne : mb ≠ ob
 names : vis S = st.names
 len : S.length ≤ st.ct
 olen : st.outer.length ≤ st.ct
 own : st.own ≤ st.ct
 loops : st.loops ≤ st.ct
 short : ∀ s ∈ st.names, s.size ≤ maxLen
 max : st.ct ≤ 1000000000000
def WK (w : World) (B g : Nat) (S : List It) (st : ScM.Sc) : Prop := ∃ vi vo mb ob, WR w B g vi vo mb ob S st
/-- The walker's blocks. -/
def Fp (g : Nat) (vi vo : Value) (mb ob k : Nat) : Prop := k = g ∨ vi.ownBlock = some k ∨ vo.ownBlock = some k ∨ k = mb ∨ k = ob
section
variable {w w' w'' : World} {B g mb ob : Nat} {vi vo : Value} {S : List It} {st : ScM.Sc}
theorem WR.lt (h : WR w B g vi vo mb ob S st) (k : Nat) (f : Fp g vi vo mb ob k) : B ≤ k ∧ k < w.heap.size := by
 rcases f with rfl | e | e | rfl | rfl
 ·exact ⟨h.hg, h.blk.lt⟩
 ·exact own_lt h.items k e
 ·exact own_lt h.outer k e
 ·exact ⟨h.hm, h.cnt.lt⟩
 ·exact ⟨h.ho, h.out.lt⟩
theorem WR.same (h : WR w B g vi vo mb ob S st) (k : ∀ q, Fp g vi vo mb ob q → w'.heap[q]? = w.heap[q]?) : WR w' B g vi vo mb ob S st :=
 {h with
  blk := (k g (.inl rfl)).trans h.blk
  items := own_same h.items fun q e => k q (.inr (.inl e))
  cnt := h.cnt.same (k mb (.inr (.inr (.inr (.inl rfl)))))
  outer := own_same h.outer fun q e => k q (.inr (.inr (.inl e)))
  out := h.out.same (k ob (.inr (.inr (.inr (.inr rfl))))) }
theorem WR.keep (h : WR w B g vi vo mb ob S st) (b : Below w.heap.size w w') : WR w' B g vi vo mb ob S st := h.same fun q f => b.block q (h.lt q f).2
theorem WK.keep (h : WK w B g S st) (b : Below w.heap.size w w') : WK w' B g S st := by
 obtain ⟨vi, vo, mb, ob, h⟩ := h
 exact ⟨vi, vo, mb, ob, h.keep b⟩
theorem WR.base (h : WR w B g vi vo mb ob S st) : B ≤ w.heap.size := by have := h.hg; have := h.blk.lt; omega
theorem WK.base (h : WK w B g S st) : B ≤ w.heap.size := by
 obtain ⟨vi, vo, mb, ob, h⟩ := h
 exact h.base
end
/-- What a call on a walker leaves: all below B; blocks of cells but for items, walkers (and, b, texts). -/
structure Kp (B : Nat) (b : Bool) (w w' : World) : Prop where
 bel : Below B w w'
 blk : ∀ k cs ty, Blk w k cs ty → ty ≠ 99 → ty ≠ 62 → (b = true → ty ≠ 9) → Blk w' k cs ty
section
variable {w w' w'' : World} {B : Nat} {b : Bool}
theorem Kp.refl (B : Nat) (b : Bool) (w : World) : Kp B b w w := ⟨Below.refl _ _, fun _ _ _ h _ _ _ => h⟩
theorem Kp.trans (h : Kp B b w w') (k : Kp B b w' w'') : Kp B b w w'' := ⟨h.bel.trans k.bel, fun q cs ty a x y z => k.blk q cs ty (h.blk q cs ty a x y z) x y z⟩
theorem Kp.weak (h : Kp B false w w') : Kp B b w w' := ⟨h.bel, fun q cs ty a x y _ => h.blk q cs ty a x y (fun e => nomatch e)⟩
theorem Kp.of_below (h : Below w.heap.size w w') (hB : B ≤ w.heap.size) : Kp B b w w' := ⟨h.mono hB, fun q cs ty a _ _ _ => a.keep h⟩
theorem Kp.alloc (h : Kp B b w w') (hB : B ≤ w.heap.size) (o : Obj) : Kp B b w (w'.alloc o) := h.trans (Kp.of_below ((Below.refl _ w').alloc (Nat.le_refl _) o) (Nat.le_trans hB h.bel.size))
theorem Kp.drew (h : Kp B b w w') : Kp B b w w'.drew := ⟨h.bel.drew, h.blk⟩
end
theorem Blk.eight {W : World} {b : Nat} {v0 v1 v2 v3 v4 v5 v6 v7 : Value} {t : TypeId} (h : Blk W b #[v0, v1, v2, v3, v4, v5, v6, v7] t) :
  (W.cell? ⟨b, 0, none⟩ = some v0 ∧ W.cell? ⟨b, 1, none⟩ = some v1 ∧ W.cell? ⟨b, 2, none⟩ = some v2 ∧ W.cell? ⟨b, 3, none⟩ = some v3 ∧ W.cell? ⟨b, 4, none⟩ = some v4 ∧ W.cell? ⟨b, 5, none⟩ = some v5 ∧ W.cell? ⟨b, 6, none⟩ = some v6 ∧ W.cell? ⟨b, 7, none⟩ = some v7) ∧
  W.frozen? ⟨b, 0, none⟩ = false ∧ W.frozen? ⟨b, 1, none⟩ = false ∧ W.frozen? ⟨b, 2, none⟩ = false ∧ W.frozen? ⟨b, 3, none⟩ = false ∧ W.frozen? ⟨b, 4, none⟩ = false ∧ W.frozen? ⟨b, 5, none⟩ = false ∧ W.frozen? ⟨b, 6, none⟩ = false ∧ W.frozen? ⟨b, 7, none⟩ = false := by
 have h : W.heap[b]? = _ := h
 simp [World.cell?, World.frozen?, h]
end Go.Proofs.Yteakhlnnepjhpaa
