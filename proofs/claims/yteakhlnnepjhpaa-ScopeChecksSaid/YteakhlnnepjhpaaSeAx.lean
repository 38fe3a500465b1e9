/- The document's own Check: its state in memory; fail, declare, add; loop. -/
import Derived.Test.YteakhlnnepjhpaaSeXx
import Derived.Test.YteakhlnnepjhpaaKo
import Derived.BigRegion
import Derived.BigQuiet
namespace Go.Proofs.Yteakhlnnepjhpaa
open Go.RowKit PrM
set_option linter.unusedVariables false
set_option linter.unusedSimpArgs false
/-- Rows of numbers. -/
def IL (l : List Int) : List Value := l.map (Value.int .i64)
theorem il_len (l : List Int) : (IL l).length = l.length := List.length_map ..
theorem ir_shape {w : World} {B : Nat} {v : Value} {l : List Int} {x : Int} (h : w.ownsRow B 3 1 v (l.length + 1) (IL (l ++ [x]))) :
  ∃ p c, v = .slice (some ⟨p, 0, none⟩) (l.length + 1) c ∧ l.length + 1 ≤ c ∧ (w.cell? ⟨p, l.length, none⟩ = some (.int .i64 x) ∧ w.frozen? ⟨p, l.length, none⟩ = false) ∧ B ≤ p ∧ p < w.heap.size := by
 have h' := h
 rcases h.2 with ⟨rfl, h0⟩ | ⟨p, cap, cur, rfl, hp, hb, hn, -⟩
 ·omega
 ·have k := own_at h' l.length (by rw [il_len, List.length_append]; exact Nat.lt_succ_self _)
  refine ⟨p, cap, rfl, hn, ⟨k.1.trans ?_, k.2⟩, hp, (Array.getElem?_eq_some_iff.1 hb).1⟩
  simp [IL]
theorem ir_set {w : World} {B p n c : Nat} {l : List Int} {x : Int} (h : w.ownsRow B 3 1 (.slice (some ⟨p, 0, none⟩) n c) n (IL (l ++ [x]))) (y : Int) :
  (w.setCell ⟨p, l.length, none⟩ (.int .i64 y)).ownsRow B 3 1 (.slice (some ⟨p, 0, none⟩) n c) n (IL (l ++ [y])) := by
 have k := own_set h l.length (.int .i64 y)
 have e : (IL (l ++ [x])).set l.length (.int .i64 y) = IL (l ++ [y]) := by
  unfold IL
  rw [List.map_append, List.map_append, List.set_append_right _ _ (by simp)]
  simp
 rwa [e] at k
theorem own_frontG {w : World} {B n c : Nat} {ty : TypeId} {A : Option Addr} {l ds : List Value} (h : w.ownsRow B ty 1 (.slice A n c) n (l ++ ds)) (hl : A = none → l = []) : w.ownsRow B ty 1 (.slice A l.length c) l.length l := by
 have h1 := h.1
 rw [List.length_append, Nat.mul_one] at h1
 rcases h.2 with ⟨e, h0⟩ | ⟨p, cap, cur, e, hp, hb, hn, hc, hs, ht⟩
 ·injection e with e1 e2 e3
  subst e1 e3
  obtain rfl := hl rfl
  exact World.ownsRow_nil w B _ _
 ·injection e with e1 e2 e3
  subst e1 e3
  refine ⟨by simp, .inr ⟨p, _, cur, rfl, hp, hb, by omega, hc, hs, ?_⟩⟩
  have e2 : (l ++ ds).take (l.length * 1) = l := by
   rw [Nat.mul_one]
   exact List.take_left
  have e3 : cur.toList.take (l.length * 1) = (cur.toList.take (n * 1)).take (l.length * 1) := by rw [List.take_take, Nat.min_eq_left (by omega)]
  rw [e3, ht, e2]
theorem run_append_int1 (w : World) (ty : TypeId) (B : Nat) (v : Value) (n : Nat) (xs : List Value) (hown : w.ownsRow B 3 1 v n xs) (b : Nat) (y : Int) (hc : w.cell? ⟨b, 0, none⟩ = some (.int .i64 y)) (hn : n ≤ 1000000000000) (hb : B ≤ w.heap.size) :
  ∃ v' w', (Builtin.append_ #[64, 64] ty #[v, .slice (some ⟨b, 0, none⟩) 1 1]).run Try.prog w = .ok v' w' ∧ w'.ownsRow B 3 1 v' (n + 1) (xs ++ [.int .i64 y]) ∧ w.grownBy w' v.ownBlock ∧ (v'.ownBlock = v.ownBlock ∨ v'.ownBlock = some w.heap.size) := by
 obtain ⟨i, hi, hz, k1, k2⟩ := info_parts (show (Try.prog.info? 3).map (fun i => (i.zero, i.size, i.bytes)) = some (some (.int .i64 0), 1, 8) by kernel_rfl)
 obtain ⟨v', w', hrun, h2, h3, _, h5⟩ := run_append_own_at (P := Try.prog) w B 64 ty 3 i _ 1 8 Try.underlying64 hi hz k1 k2 rfl (by decide) v n xs hown ⟨b, 0, none⟩ 1 1 [.int .i64 y] rfl (fun j u hu => by
  match j, hu with
  | 0, hu => simp at hu; subst hu; exact hc) (fun u hu => by simp at hu; subst hu; rfl) (by unfold maxLen; omega) (by omega) hb
 exact ⟨v', w', hrun, h2, h3, h5⟩
theorem step_append_int1 {w : World} {ops : Array Oper} {o : Oper} {a : Act} {K : Act → World → Prop} {Q : Exit → Act → World → Prop} {E : Prop} (hgd : o.guard = none) (s x : Operand)
  (ho : o.op = .call { callee := .builtin .append, args := #[s, x], argTypes := #[64, 64] })
  (B : Nat) (v : Value) (n : Nat) (xs : List Value) (b : Nat) (y : Int) (hs : a.eval s = v) (hx : a.eval x = .slice (some ⟨b, 0, none⟩) 1 1) (hown : w.ownsRow B 3 1 v n xs) (hc : w.cell? ⟨b, 0, none⟩ = some (.int .i64 y)) (hn : n ≤ 1000000000000) (hb : B ≤ w.heap.size)
  (h : ∀ v' w', w'.ownsRow B 3 1 v' (n + 1) (xs ++ [.int .i64 y]) → w.grownBy w' v.ownBlock → (v'.ownBlock = v.ownBlock ∨ v'.ownBlock = some w.heap.size) → K (a.put o.dst v') w') :
  if Region.wanted o (yielded ops a.tmps) = true then Oper.wp Try.prog o a w K Q else E := by
 have hw : Region.wanted o (yielded ops a.tmps) = true := by simp [Region.wanted, hgd]
 rw [if_pos hw]
 obtain ⟨v', w', hr, h2, h3, h5⟩ := run_append_int1 w o.type B v n xs hown b y hc hn hb
 unfold Oper.wp
 simp [execOp, ho, resolve, invoke, builtin, hs, hx, hr, Result.andThen]
 exact h v' w' h2 h3 h5
theorem only_grown {F : Nat → Prop} {w w' : World} {r : Option Nat} (g : w.grownBy w' r) (hr : ∀ q, r = some q → F q) : Only F w w' := ⟨g.os, g.tape, g.output, g.size, fun k hk hn => g.block k hk fun e => hn (hr k e.symm)⟩
/-- The document's state at block g: names that are there; numbers of names and of open loops, of each function around. -/
structure VO (w : World) (B g : Nat) (vn vw vl : Value) (os ls : List Int) (lo : Int) (st : ScM.Sc) : Prop where
 blk : Blk w g #[vn, vw, vl, .int .i64 st.err, .int .i64 st.at_] 66
 names : w.ownsRow B 9 1 vn st.names.length (st.names.map .string)
 own : w.ownsRow B 3 1 vw (os.length + 1) (IL (os ++ [(st.own : Int)]))
 loops : w.ownsRow B 3 1 vl (ls.length + 1) (IL (ls ++ [lo]))
 apart : ∀ q, vw.ownBlock = some q → vl.ownBlock ≠ some q
 hg : B ≤ g
 nlen : st.names.length ≤ st.ct
 ow : st.own ≤ st.ct
 d1 : os.length ≤ st.ct
 d2 : ls.length ≤ st.ct
 l0 : -1 ≤ lo
 l1 : lo ≤ st.ct
 max : st.ct ≤ 1000000000000
def VQ (w : World) (B g : Nat) (os ls : List Int) (lo : Int) (st : ScM.Sc) : Prop := ∃ vn vw vl, VO w B g vn vw vl os ls lo st
/-- What a call on it leaves. -/
structure Kv (B : Nat) (w w' : World) : Prop where
 bel : Below B w w'
 blk : ∀ k cs ty, Blk w k cs ty → ty ≠ 66 → ty ≠ 9 → ty ≠ 3 → Blk w' k cs ty
def Fv5 (g : Nat) (vn vw vl : Value) (q : Nat) : Prop := q = g ∨ vn.ownBlock = some q ∨ vw.ownBlock = some q ∨ vl.ownBlock = some q
section
variable {w w' w'' : World} {B g : Nat} {vn vw vl : Value} {os ls : List Int} {lo : Int} {st st' : ScM.Sc} {P : Nat → Prop}
theorem Kv.refl (B : Nat) (w : World) : Kv B w w := ⟨Below.refl _ _, fun _ _ _ h _ _ _ => h⟩
theorem Kv.trans (h : Kv B w w') (k : Kv B w' w'') : Kv B w w'' := ⟨h.bel.trans k.bel, fun q cs ty a x y z => k.blk q cs ty (h.blk q cs ty a x y z) x y z⟩
theorem Kv.of_below (h : Below w.heap.size w w') (hB : B ≤ w.heap.size) : Kv B w w' := ⟨h.mono hB, fun q cs ty a _ _ _ => a.keep h⟩
theorem Kv.drew (h : Kv B w w') : Kv B w w'.drew := ⟨h.bel.drew, h.blk⟩
theorem ksMoves (k : Kv B w w') (hP : ∀ q, P q → q < B) : Moves w w' P P := ⟨k.bel.size, fun p hp _ => World.cell?_of_block (k.bel.block _ (hP _ hp)), fun _ h _ => h⟩
theorem Sl.kv {x : X} {z : Nat} {v : Value} (h : Sl x.len (Rd w P x).row z v) (k : Kv B w w') (hP : ∀ q, P q → q < B) : Sl x.len (Rd w' P x).row z v := h.imp (Rd.move (ksMoves k hP) x).2.1
theorem Strs.kv {l : List ByteArray} {v : Value} (h : Strs w P v l) (k : Kv B w w') (hP : ∀ q, P q → q < B) : Strs w' P v l := h.move (ksMoves k hP)
theorem Rd.kv {x : X} {cs : Array Value} (h : (Rd w P x).cells cs) (k : Kv B w w') (hP : ∀ q, P q → q < B) : (Rd w' P x).cells cs := (Rd.move (ksMoves k hP) x).1 _ h
theorem VO.base (h : VO w B g vn vw vl os ls lo st) : B ≤ w.heap.size := by have := h.hg; have := h.blk.lt; omega
theorem VQ.base (h : VQ w B g os ls lo st) : B ≤ w.heap.size := by obtain ⟨_, _, _, h⟩ := h; exact h.base
theorem VO.fp (h : VO w B g vn vw vl os ls lo st) (q : Nat) (f : Fv5 g vn vw vl q) : B ≤ q ∧ q < w.heap.size := by
 rcases f with e | e | e | e
 ·subst e; exact ⟨h.hg, h.blk.lt⟩
 ·exact own_lt h.names q e
 ·exact own_lt h.own q e
 ·exact own_lt h.loops q e
theorem VO.same (h : VO w B g vn vw vl os ls lo st) (k : ∀ q, Fv5 g vn vw vl q → w'.heap[q]? = w.heap[q]?) : VO w' B g vn vw vl os ls lo st :=
 {h with
  blk := (k g (.inl rfl)).trans h.blk
  names := own_same h.names fun q e => k q (.inr (.inl e))
  own := own_same h.own fun q e => k q (.inr (.inr (.inl e)))
  loops := own_same h.loops fun q e => k q (.inr (.inr (.inr e))) }
theorem VO.keep (h : VO w B g vn vw vl os ls lo st) (b : Below w.heap.size w w') : VO w' B g vn vw vl os ls lo st := h.same fun q f => b.block q (h.fp q f).2
theorem VO.drew (h : VO w B g vn vw vl os ls lo st) : VO w.drew B g vn vw vl os ls lo st := h.same fun _ _ => rfl
theorem VQ.keep (h : VQ w B g os ls lo st) (b : Below w.heap.size w w') : VQ w' B g os ls lo st := by obtain ⟨_, _, _, h⟩ := h; exact ⟨_, _, _, h.keep b⟩
theorem VQ.drew (h : VQ w B g os ls lo st) : VQ w.drew B g os ls lo st := by obtain ⟨_, _, _, h⟩ := h; exact ⟨_, _, _, h.drew⟩
theorem VO.kv (h : VO w B g vn vw vl os ls lo st) (o : Only (Fv5 g vn vw vl) w w') : Kv B w w' :=
 ⟨o.below (fun q f => (h.fp q f).1) h.base, fun k cs ty a x y z => (o.block k a.lt (fun f => by
  rcases f with e | e | e | e
  ·subst e
   have a : w.heap[k]? = _ := a
   have b : w.heap[k]? = _ := h.blk
   rw [a] at b
   injection b with b
   injection b with _ b
   exact x b
  ·exact own_blk h.names a (fun e2 => y e2.symm) e
  ·exact own_blk h.own a (fun e2 => z e2.symm) e
  ·exact own_blk h.loops a (fun e2 => z e2.symm) e)).trans a⟩
/-- Another state that stands there as well. -/
theorem VO.conv (h : VO w B g vn vw vl os ls lo st) (e1 : st'.names = st.names) (e2 : st'.own = st.own) (e3 : st'.err = st.err) (e4 : st'.at_ = st.at_) (e5 : st.ct ≤ st'.ct) (e6 : st'.ct ≤ 1000000000000) : VO w B g vn vw vl os ls lo st' :=
 ⟨by rw [e3, e4]; exact h.blk, by rw [e1]; exact h.names, by rw [e2]; exact h.own, h.loops, h.apart, h.hg, by rw [e1]; exact Nat.le_trans h.nlen e5, by rw [e2]; exact Nat.le_trans h.ow e5, Nat.le_trans h.d1 e5, Nat.le_trans h.d2 e5, h.l0, by have := h.l1; omega, e6⟩
theorem VQ.conv (h : VQ w B g os ls lo st) (e1 : st'.names = st.names) (e2 : st'.own = st.own) (e3 : st'.err = st.err) (e4 : st'.at_ = st.at_) (e5 : st.ct ≤ st'.ct) (e6 : st'.ct ≤ 1000000000000) : VQ w B g os ls lo st' := by
 obtain ⟨_, _, _, h⟩ := h
 exact ⟨_, _, _, h.conv e1 e2 e3 e4 e5 e6⟩
theorem blkS {v0 v1 v2 v3 v4 : Value} {b : Nat} {t : TypeId} (h : Blk w b #[v0, v1, v2, v3, v4] t) (u : Value) :
  Blk (w.setCell ⟨b, 0, none⟩ u) b #[u, v1, v2, v3, v4] t ∧ Blk (w.setCell ⟨b, 1, none⟩ u) b #[v0, u, v2, v3, v4] t ∧ Blk (w.setCell ⟨b, 2, none⟩ u) b #[v0, v1, u, v3, v4] t ∧ Blk (w.setCell ⟨b, 3, none⟩ u) b #[v0, v1, v2, u, v4] t ∧ Blk (w.setCell ⟨b, 4, none⟩ u) b #[v0, v1, v2, v3, u] t := by
 have h : w.heap[b]? = _ := h
 refine ⟨?_, ?_, ?_, ?_, ?_⟩
 ·show (w.setCell ⟨b, 0, none⟩ u).heap[b]? = _
  simp [World.setCell, Array.getElem?_modify, h]
 ·show (w.setCell ⟨b, 1, none⟩ u).heap[b]? = _
  simp [World.setCell, Array.getElem?_modify, h]
 ·show (w.setCell ⟨b, 2, none⟩ u).heap[b]? = _
  simp [World.setCell, Array.getElem?_modify, h]
 ·show (w.setCell ⟨b, 3, none⟩ u).heap[b]? = _
  simp [World.setCell, Array.getElem?_modify, h]
 ·show (w.setCell ⟨b, 4, none⟩ u).heap[b]? = _
  simp [World.setCell, Array.getElem?_modify, h]
theorem VO.na (h : VO w B g vn vw vl os ls lo st) : vn.ownBlock ≠ some g ∧ vw.ownBlock ≠ some g ∧ vl.ownBlock ≠ some g := ⟨own_blk h.names h.blk (by decide), own_blk h.own h.blk (by decide), own_blk h.loops h.blk (by decide)⟩
/-- One number set: a function's own names. -/
theorem VO.setOwn {p c n : Nat} (h : VO w B g vn (.slice (some ⟨p, 0, none⟩) n c) vl os ls lo st) (hn : n = os.length + 1) (e1 : st'.names = st.names) (e3 : st'.err = st.err) (e4 : st'.at_ = st.at_) (e5 : st.ct ≤ st'.ct) (e6 : st'.ct ≤ 1000000000000) (e7 : st'.own ≤ st'.ct) :
  VO (w.setCell ⟨p, os.length, none⟩ (.int .i64 (st'.own : Int))) B g vn (.slice (some ⟨p, 0, none⟩) n c) vl os ls lo st' ∧ Kv B w (w.setCell ⟨p, os.length, none⟩ (.int .i64 (st'.own : Int))) := by
 have o := (Only.refl (fun q => q = p) w).setCell (p := ⟨p, os.length, none⟩) (.inl rfl) (.int .i64 (st'.own : Int))
 have o2 : Only (Fv5 g vn (.slice (some ⟨p, 0, none⟩) n c) vl) w (w.setCell ⟨p, os.length, none⟩ (.int .i64 (st'.own : Int))) := (Only.refl _ w).setCell (p := ⟨p, os.length, none⟩) (.inl (.inr (.inr (.inl rfl)))) _
 have na := h.na
 subst hn
 refine ⟨⟨by rw [e3, e4]; exact (o.block g h.blk.lt (fun e => na.2.1 (by rw [e]; rfl))).trans h.blk, ?_, ir_set h.own _, own_same h.loops fun q e => o.block q (own_lt h.loops q e).2 fun x => h.apart p rfl (x ▸ e), h.apart, h.hg, by rw [e1]; exact Nat.le_trans h.nlen e5, e7, Nat.le_trans h.d1 e5, Nat.le_trans h.d2 e5, h.l0, by have := h.l1; omega, e6⟩, h.kv o2⟩
 rw [e1]
 exact own_same h.names fun q e => o.block q (own_lt h.names q e).2 fun x => own_own h.own h.names (by decide) rfl (x ▸ e)
/-- One number set: open loops. -/
theorem VO.setLoops {p c n : Nat} (h : VO w B g vn vw (.slice (some ⟨p, 0, none⟩) n c) os ls lo st) (hn : n = ls.length + 1) (y : Int) (e1 : st'.names = st.names) (e2 : st'.own = st.own) (e3 : st'.err = st.err) (e4 : st'.at_ = st.at_) (e5 : st.ct ≤ st'.ct) (e6 : st'.ct ≤ 1000000000000) (e7 : -1 ≤ y ∧ y ≤ st'.ct) :
  VO (w.setCell ⟨p, ls.length, none⟩ (.int .i64 y)) B g vn vw (.slice (some ⟨p, 0, none⟩) n c) os ls y st' ∧ Kv B w (w.setCell ⟨p, ls.length, none⟩ (.int .i64 y)) := by
 have o := (Only.refl (fun q => q = p) w).setCell (p := ⟨p, ls.length, none⟩) (.inl rfl) (.int .i64 y)
 have o2 : Only (Fv5 g vn vw (.slice (some ⟨p, 0, none⟩) n c)) w (w.setCell ⟨p, ls.length, none⟩ (.int .i64 y)) := (Only.refl _ w).setCell (p := ⟨p, ls.length, none⟩) (.inl (.inr (.inr (.inr rfl)))) _
 have na := h.na
 subst hn
 refine ⟨⟨by rw [e3, e4]; exact (o.block g h.blk.lt (fun e => na.2.2 (by rw [e]; rfl))).trans h.blk, ?_, ?_, ir_set h.loops _, h.apart, h.hg, by rw [e1]; exact Nat.le_trans h.nlen e5, by rw [e2]; exact Nat.le_trans h.ow e5, Nat.le_trans h.d1 e5, Nat.le_trans h.d2 e5, e7.1, e7.2, e6⟩, h.kv o2⟩
 ·rw [e1]
  exact own_same h.names fun q e => o.block q (own_lt h.names q e).2 fun x => own_own h.loops h.names (by decide) rfl (x ▸ e)
 ·rw [e2]
  exact own_same h.own fun q e => o.block q (own_lt h.own q e).2 fun x => h.apart q e (by rw [x]; rfl)
/-- The state's own cells set: what they are then. -/
theorem VO.setG {vn' vw' vl' : Value} {os' ls' : List Int} {lo' : Int} (h : VO w B g vn vw vl os ls lo st) (o : Only (fun q => q = g) w w') (b : Blk w' g #[vn', vw', vl', .int .i64 st'.err, .int .i64 st'.at_] 66)
  (kn : w.ownsRow B 9 1 vn' st'.names.length (st'.names.map .string)) (kw : w.ownsRow B 3 1 vw' (os'.length + 1) (IL (os' ++ [(st'.own : Int)]))) (kl : w.ownsRow B 3 1 vl' (ls'.length + 1) (IL (ls' ++ [lo'])))
  (ap : ∀ q, vw'.ownBlock = some q → vl'.ownBlock ≠ some q) (e1 : st'.names.length ≤ st'.ct) (e2 : st'.own ≤ st'.ct) (e3 : os'.length ≤ st'.ct) (e4 : ls'.length ≤ st'.ct) (e5 : -1 ≤ lo') (e6 : lo' ≤ st'.ct) (e7 : st'.ct ≤ 1000000000000) :
  VO w' B g vn' vw' vl' os' ls' lo' st' ∧ Kv B w w' :=
 ⟨⟨b, own_same kn fun q e => o.block q (own_lt kn q e).2 fun x => own_blk kn h.blk (by decide) (x ▸ e), own_same kw fun q e => o.block q (own_lt kw q e).2 fun x => own_blk kw h.blk (by decide) (x ▸ e), own_same kl fun q e => o.block q (own_lt kl q e).2 fun x => own_blk kl h.blk (by decide) (x ▸ e), ap, h.hg, e1, e2, e3, e4, e5, e6, e7⟩,
  h.kv ⟨o.os, o.tape, o.output, o.size, fun k hk hn => o.block k hk fun e => hn (.inl e)⟩⟩
end
/-- What a call on it answers. -/
def VP (w : World) (B g : Nat) (os ls : List Int) (lo : Int) (st : ScM.Sc) (e : Ending) (w' : World) : Prop := e = .returned (.tuple #[]) ∧ VQ w' B g os ls lo st ∧ Kv B w w'
end Go.Proofs.Yteakhlnnepjhpaa
namespace Go.Proofs.Yteakhlnnepjhpaa
open Go.RowKit PrM
set_option linter.unusedVariables false
set_option linter.unusedSimpArgs false
section
variable {w : World} {B g : Nat} {os ls : List Int} {lo : Int} {st : ScM.Sc}
theorem fault_id {c a : Int} {st : ScM.Sc} (h : st.err ≠ 0) : ScM.fault c a st = st := if_neg h
set_option maxRecDepth 20000 in
set_option maxHeartbeats 4000000 in
/-- fail. -/
theorem v_fail (h : VQ w B g os ls lo st) (c a : Int) :
  Calls Try.prog 55 #[.pointer (some ⟨g, 0, none⟩), .int .i64 c, .int .i64 a] w (VP w B g os ls lo (ScM.fault c a st)) := by
 obtain ⟨vn, vw, vl, h⟩ := h
 obtain ⟨⟨c0, c1, c2, c3, c4⟩, f0, f1, f2, f3, f4⟩ := h.blk.five
 have H := Lib.hid h
 by_cases e : st.err = 0
 ·have q : (st.err == 0) = true := by simpa using e
  have EF := Lib.hid (show ScM.fault c a st = { st with err := c, at_ := a } from if_pos e)
  have b1 := (blkS h.blk (.int .i64 c)).2.2.2.1
  have b2 := (blkS b1 (.int .i64 a)).2.2.2.2
  have o := ((Only.refl (fun q => q = g) w).setCell (p := ⟨g, 3, none⟩) (.inl rfl) (.int .i64 c)).setCell (p := ⟨g, 4, none⟩) (.inl rfl) (.int .i64 a)
  have R := Lib.hid (h.setG (st' := { st with err := c, at_ := a }) o b2 h.names h.own h.loops h.apart h.nlen h.ow h.d1 h.d2 h.l0 h.l1 h.max)
  clear h e b1 b2 o
  go_enter Try.func55, Try.ntmps55
  go_wp2_with fail
  go_end0
  exact ⟨rfl, by rw [EF.out]; exact ⟨_, _, _, R.out.1⟩, R.out.2⟩
 ·have q : (st.err == 0) = false := by simpa using e
  have EF := Lib.hid (fault_id (c := c) (a := a) e)
  clear h e
  go_enter Try.func55, Try.ntmps55
  go_wp2_with fail
  go_end0
  exact ⟨rfl, by rw [EF.out]; exact ⟨_, _, _, H.out⟩, Kv.refl _ _⟩
def lim (n : Nat) (a : Int) (st : ScM.Sc) : ScM.Sc := if 150 < st.own + n then ScM.fault 8 a st else st
set_option maxRecDepth 20000 in
set_option maxHeartbeats 4000000 in
/-- declare. -/
theorem v_declare (h : VQ w B g os ls lo st) (n : Nat) (a : Int) (hn : n ≤ 100000) :
  Calls Try.prog 54 #[.pointer (some ⟨g, 0, none⟩), .int .i64 (n : Int), .int .i64 a] w (VP w B g os ls lo (lim n a st)) := by
 have F1 := Lib.hid (fun W (k : VQ W B g os ls lo st) => v_fail k 8 a)
 have H := Lib.hid h
 obtain ⟨vn, vw, vl, h⟩ := h
 obtain ⟨⟨c0, c1, c2, c3, c4⟩, -⟩ := h.blk.five
 obtain ⟨p, c, rfl, hc, ⟨x0, x1⟩, -⟩ := ir_shape h.own
 have hc1 : ((os.length + 1 : Nat) : Int) ≤ (c : Int) := by omega
 obtain ⟨d, hd⟩ : ∃ d, os.length = d := ⟨_, rfl⟩
 rw [hd] at c1 x0 hc1
 have d0 : (0 : Int) ≤ (d : Int) := by omega
 have d1 : (d : Int) ≤ 1000000000000 := by have := h.d1; have := h.max; omega
 have e1 : ((d + 1 : Nat) : Int) - 1 = (d : Int) := by omega
 have e2 : (d : Int) < ((d + 1 : Nat) : Int) := by omega
 have w0 : (0 : Int) ≤ (st.own : Int) := by omega
 have w1 : (st.own : Int) ≤ 1000000000000 := by have := h.ow; have := h.max; omega
 have m0 : (0 : Int) ≤ (n : Int) := by omega
 have m1 : (n : Int) ≤ 100000 := by omega
 obtain ⟨o, ho⟩ : ∃ o, st.own = o := ⟨_, rfl⟩
 rw [ho] at x0 w0 w1
 by_cases q : 150 < o + n
 ·have q1 : (150 : Int) < (o : Int) + (n : Int) := by omega
  have EL := Lib.hid (show lim n a st = ScM.fault 8 a st from if_pos (by rw [ho]; exact q))
  clear h q hn hc hd ho
  go_enter Try.func54, Try.ntmps54
  go_wp2_with fail
  go_region
  all_goals
   go_wp2_with (go_at_call 55; refine (F1.out _ H.out.drew).mono ?_; rintro e w2 ⟨rfl, h2, k2⟩; have H2 := Lib.hid h2; have K2 := Lib.hid k2; clear h2 k2)
   go_end0
   exact ⟨rfl, by rw [EL.out]; exact H2.out, ((Kv.refl B w).drew).trans K2.out⟩
 ·have q1 : ¬ (150 : Int) < (o : Int) + (n : Int) := by omega
  have EL := Lib.hid (show lim n a st = st from if_neg (by rw [ho]; exact q))
  clear h q hn hc hd ho
  go_enter Try.func54, Try.ntmps54
  go_wp2_with fail
  go_region
  all_goals
   go_wp2_with fail
   go_end0
   exact ⟨rfl, by rw [EL.out]; exact H.out.drew, (Kv.refl B w).drew⟩
/-- Names more, one row and the state's own cell. -/
theorem VO.named {w w1 w2 w3 : World} {vn vn' vw vl : Value} {ps : List ByteArray} {st' : ScM.Sc} (h : VO w B g vn vw vl os ls lo st) (b1 : Below w.heap.size w w1) (gr : w1.grownBy w2 vn.ownBlock) (o : Only (fun b => b = g) w2 w3)
  (own : w2.ownsRow B 9 1 vn' (st.names ++ ps).length ((st.names ++ ps).map .string)) (hv : vn'.ownBlock = vn.ownBlock ∨ vn'.ownBlock = some w1.heap.size) (b : Blk w3 g #[vn', vw, vl, .int .i64 st.err, .int .i64 st.at_] 66)
  (e1 : st'.names = st.names ++ ps) (e2 : st'.own = st.own) (e3 : st'.err = st.err) (e4 : st'.at_ = st.at_) (e5 : st'.ct = st.ct + ps.length) (hm : st.ct + ps.length ≤ 1000000000000) :
  VO w3 B g vn' vw vl os ls lo st' ∧ Kv B w w3 := by
 have z1 := b1.size
 have o1 : Only (Fv5 g vn vw vl) w w2 := (Only.of_below b1).trans (only_grown gr (F := Fv5 g vn vw vl) (fun q e => .inr (.inl e))) (fun n f => .inl f)
 have o2 : Only (Fv5 g vn vw vl) w w3 := o1.trans o (fun n e => .inl (.inl e))
 have s2 : ∀ q, q < w.heap.size → vn.ownBlock ≠ some q → w2.heap[q]? = w.heap[q]? := fun q l m => (gr.block q (by omega) (fun e => m e.symm)).trans (b1.block q l)
 have s3 : ∀ q, q < w.heap.size → vn.ownBlock ≠ some q → q ≠ g → w3.heap[q]? = w.heap[q]? := fun q l m k => (o.block q (Nat.lt_of_lt_of_le l (Nat.le_trans z1 gr.size)) k).trans (s2 q l m)
 have hg2 : Blk w2 g #[vn, vw, vl, .int .i64 st.err, .int .i64 st.at_] 66 := (s2 g h.blk.lt h.na.1).trans h.blk
 refine ⟨⟨by rw [e3, e4]; exact b, ?_, ?_, ?_, h.apart, h.hg, ?_, by rw [e2, e5]; have := h.ow; omega, by rw [e5]; have := h.d1; omega, by rw [e5]; have := h.d2; omega, h.l0, by rw [e5]; have := h.l1; omega, by rw [e5]; exact hm⟩, h.kv o2⟩
 ·rw [e1]
  exact own_same own fun q e => o.block q (own_lt own q e).2 fun x => own_blk own hg2 (by decide) (x ▸ e)
 ·rw [e2]
  exact own_same h.own fun q e => s3 q (own_lt h.own q e).2 (own_own h.own h.names (by decide) e) fun x => h.na.2.1 (x ▸ e)
 ·exact own_same h.loops fun q e => s3 q (own_lt h.loops q e).2 (own_own h.loops h.names (by decide) e) fun x => h.na.2.2 (x ▸ e)
 ·rw [e1, e5, List.length_append]
  have := h.nlen
  omega
set_option maxRecDepth 20000 in
set_option maxHeartbeats 8000000 in
/-- add. -/
theorem v_add (h : VQ w B g os ls lo st) {P2 : Nat → Prop} {pv : Value} {ps : List ByteArray} (hps : Strs w P2 pv ps) (hc : st.ct + ps.length ≤ 1000000000000) :
  Calls Try.prog 43 #[.pointer (some ⟨g, 0, none⟩), pv] w (VP w B g os ls lo (ScM.declare ps st)) := by
 obtain ⟨Ap, cp, rfl⟩ := strs_slice hps
 have HPS := Lib.hid hps
 have HC := Lib.hid hc
 obtain ⟨vn, vw, vl, h⟩ := h
 obtain ⟨An, cn, rfl⟩ := own_shape h.names
 obtain ⟨pw, cw, rfl, hcw, -, -⟩ := ir_shape h.own
 have H1 := Lib.hid h
 obtain ⟨⟨c0, c1, c2, c3, c4⟩, f0, f1, f2, f3, f4⟩ := h.blk.five
 have H0 := Lib.hid (show ∀ c, Value.slice Ap ps.length cp = .slice none 0 c → c = 0 from fun c e => by
  injection e with e1 e2 e3
  obtain ⟨A', c', e', h0, -⟩ := HPS.out
  injection e' with f1 f2 f3
  rw [← e3, f3]
  exact h0 (f1 ▸ e1))
 have SZ := Lib.hid (show st.names.length + ps.length ≤ 1000000000000 by have := h.nlen; omega)
 have hc1 : ((os.length + 1 : Nat) : Int) ≤ (cw : Int) := by omega
 have w0 : (0 : Int) ≤ (st.own : Int) := by omega
 have w1 : (st.own : Int) ≤ 1000000000000 := by have := h.ow; have := h.max; omega
 have m0 : (0 : Int) ≤ (ps.length : Int) := by omega
 have m1 : (ps.length : Int) ≤ 1000000000000 := by omega
 have d0 : (0 : Int) ≤ (os.length : Int) := by omega
 have d1 : (os.length : Int) ≤ 1000000000000 := by have := h.d1; have := h.max; omega
 have e1 : ((os.length + 1 : Nat) : Int) - 1 = (os.length : Int) := by omega
 have e2 : (os.length : Int) < ((os.length + 1 : Nat) : Int) := by omega
 clear h hps hc hcw
 go_enter Try.func43, Try.ntmps43
 go_wp2_with (first
  |(refine wpList_append_names rfl (.tmp 8) (.tmp 9) rfl B _ st.names rfl H1.out.names _ ps rfl (Txs.of_strs HPS.out) H0.out SZ.out H1.out.base ?_; intro v9 w9 own9 g9 hv9; obtain ⟨A9, c9, rfl⟩ := own_shape own9; have OW := Lib.hid own9; have G9 := Lib.hid g9; have V9 := Lib.hid hv9; have K9 := Lib.hid (Blk.grown H1.out.blk g9 H1.out.na.1); clear own9 g9 hv9 c0 c1 c2 c3 c4 f0 f1 f2 f3 f4; obtain ⟨⟨c0, c1, c2, c3, c4⟩, f0, f1, f2, f3, f4⟩ := K9.out.five))
 have o := (Only.refl (fun b => b = g) w9).setCell (p := ⟨g, 0, none⟩) (.inl rfl) (.slice A9 (st.names ++ ps).length c9)
 have r := H1.out.named (st' := { st with names := st.names ++ ps, ct := st.ct + ps.length }) (Below.refl w.heap.size w) G9.out o OW.out V9.out (blkS K9.out _).1 rfl rfl rfl rfl rfl HC.out
 rw [List.length_append] at r
 obtain ⟨w3, hw3⟩ : ∃ w3, w9.setCell ⟨g, 0, none⟩ (.slice A9 (st.names.length + ps.length) c9) = w3 := ⟨_, rfl⟩
 rw [hw3] at r
 rw [hw3]
 have R := Lib.hid r
 clear hw3 r o c0 c1 c2 c3 c4 f0 f1 f2 f3 f4
 obtain ⟨⟨c0, c1, c2, c3, c4⟩, f0, f1, f2, f3, f4⟩ := R.out.1.blk.five
 obtain ⟨p', c', e', -, ⟨x0, x1⟩, -⟩ := ir_shape R.out.1.own
 injection e' with i1 i2 i3
 injection i1 with i1
 injection i1 with i1
 subst i1 i3
 clear i2
 go_region
 all_goals
  go_wp2_with fail
  go_end0
  have k := R.out.1.setOwn (st' := ScM.declare ps st) rfl rfl rfl rfl (Nat.le_refl _) HC.out (by have := H1.out.ow; show st.own + ps.length ≤ st.ct + ps.length; omega)
  have ec : (((ScM.declare ps st).own : Nat) : Int) = (st.own : Int) + (ps.length : Int) := by
   show ((st.own + ps.length : Nat) : Int) = _
   omega
  rw [ec] at k
  exact ⟨rfl, ⟨_, _, _, k.1.drew⟩, R.out.2.trans k.2.drew⟩
end
end Go.Proofs.Yteakhlnnepjhpaa
namespace Go.Proofs.Yteakhlnnepjhpaa
open Go.RowKit PrM
set_option linter.unusedVariables false
set_option linter.unusedSimpArgs false
/-- A block's answer: the names are those from ahead of it. -/
def blkR (ps : List ByteArray) (t x : X) (st : ScM.Sc) : ScM.Sc :=
 {ScM.runs (ScM.sem t).2 (ScM.runs (ScM.sem x).2 (ScM.declare ps st)) with names := st.names, own := st.own }
theorem blkR_scope (k : Int) (ps : List ByteArray) (t x : X) (st : ScM.Sc) : ScM.scope k ps (fun s => ScM.runs (ScM.sem t).2 (ScM.runs (ScM.sem x).2 s)) st = { blkR ps t x (ScM.enter k st) with names := st.names, own := st.own, loops := st.loops } := rfl
def VE (x : X) : Prop := ∀ (w : World) (B g : Nat) (os ls : List Int) (lo : Int) (st : ScM.Sc) (P : Nat → Prop) (v : Value), VQ w B g os ls lo st → Sl x.len (Rd w P x).row 7 v → (∀ q, P q → q < B) → st.ct + ScM.sz x ≤ 1000000000000 → Calls Try.prog 45 #[.pointer (some ⟨g, 0, none⟩), v] w (VP w B g os ls lo (ScM.runs (ScM.sem x).2 st))
def VPt (l f : X) : Prop := ∀ (w : World) (B g : Nat) (os ls : List Int) (lo : Int) (st : ScM.Sc) (P : Nat → Prop) (k a m op : Int) (sv : ByteArray) (v5 v6 : Value), VQ w B g os ls lo st → Sl l.len (Rd w P l).row 7 v5 → Sl f.len (Rd w P f).row 2 v6 → (∀ q, P q → q < B) → st.ct + (ScM.sz l + ScM.sz f) ≤ 1000000000000 → Calls Try.prog 56 #[.pointer (some ⟨g, 0, none⟩), .agg #[.int .i64 k, .int .i64 a, .int .i64 m, .string sv, .int .i64 op, v5, v6]] w (VP w B g os ls lo (ScM.runs (ScM.sem f).2 (ScM.runs (ScM.sem l).2 st)))
def VB (x : X) : Prop := ∀ (t : X) (w : World) (B g : Nat) (os ls : List Int) (lo : Int) (st : ScM.Sc) (P P2 : Nat → Prop) (v pv tv : Value) (ps : List ByteArray), lo = (st.loops : Int) → VE t → ScM.wf t → ScM.row 7 t → VQ w B g os ls lo st → Sl x.len (Rd w P x).row 5 v → (∀ q, P q → q < B) → Strs w P2 pv ps → (∀ q, P2 q → q < B) → Sl t.len (Rd w P t).row 7 tv → st.ct + (ps.length + ScM.sz x + ScM.sz t) ≤ 1000000000000 → Calls Try.prog 20 #[.pointer (some ⟨g, 0, none⟩), v, pv, tv] w (VP w B g os ls lo (blkR ps t x st))
def VL (x : X) : Prop := ∀ (t : X) (w : World) (B g : Nat) (os ls : List Int) (lo : Int) (st : ScM.Sc) (P P2 : Nat → Prop) (v pv tv : Value) (ps : List ByteArray), lo = (st.loops : Int) → VE t → ScM.wf t → ScM.row 7 t → VQ w B g os ls lo st → Sl x.len (Rd w P x).row 5 v → (∀ q, P q → q < B) → Strs w P2 pv ps → (∀ q, P2 q → q < B) → Sl t.len (Rd w P t).row 7 tv → st.ct + (1 + ps.length + ScM.sz x + ScM.sz t) ≤ 1000000000000 → Calls Try.prog 57 #[.pointer (some ⟨g, 0, none⟩), v, pv, tv] w (VP w B g os ls lo (ScM.scope 2 ps (fun s => ScM.runs (ScM.sem t).2 (ScM.runs (ScM.sem x).2 s)) st))
theorem blkR_ct {ps : List ByteArray} {t x : X} (hx : ScM.wf x) (ht : ScM.wf t) (st : ScM.Sc) : (blkR ps t x st).ct ≤ st.ct + (ps.length + ScM.sz x + ScM.sz t) ∧ st.ct ≤ (blkR ps t x st).ct := by
 have e := ((ScM.declare_ext ps st).trans (ScM.R_all (fun y hy => ScM.sem_ext y (ScM.wf_elems hx y hy)) (ScM.declare ps st))).trans (ScM.R_all (fun y hy => ScM.sem_ext y (ScM.wf_elems ht y hy)) _)
 exact ⟨e.ct, e.lo⟩
theorem slice_of {x : X} {z : Nat} {w : World} {P : Nat → Prop} {v : Value} (h : Sl x.len (Rd w P x).row z v) : ∃ A c, v = .slice A x.len c := by obtain ⟨A, c, e, -⟩ := h; exact ⟨A, c, e⟩
set_option maxRecDepth 20000 in
set_option maxHeartbeats 8000000 in
/-- loop. -/
theorem v_loop {x : X} (hB : VB x) (hx : ScM.wf x) : VL x := by
 intro t w B g os ls lo st P P2 v pv tv ps hlo ht hwt hrt h hsl hP hps hP2 htv hc
 obtain ⟨A, c, rfl⟩ := slice_of hsl
 obtain ⟨At, ct, rfl⟩ := slice_of htv
 obtain ⟨Ap, cp, rfl⟩ := strs_slice hps
 obtain ⟨vn, vw, vl, h⟩ := h
 obtain ⟨pl, cl, rfl, hcl, ⟨x0, x1⟩, -⟩ := ir_shape h.loops
 obtain ⟨⟨c0, c1, c2, c3, c4⟩, -⟩ := h.blk.five
 subst hlo
 have hct := h.max
 have hl1 := h.l1
 have S1 := Lib.hid (h.setLoops (st' := ScM.enter 2 st) rfl ((st.loops : Int) + 1) rfl rfl rfl rfl (Nat.le_succ _) (by show st.ct + 1 ≤ _; omega) ⟨by omega, by show (st.loops : Int) + 1 ≤ ((st.ct + 1 : Nat) : Int); omega⟩)
 have hc1 : ((ls.length + 1 : Nat) : Int) ≤ (cl : Int) := by omega
 have d0 : (0 : Int) ≤ (ls.length : Int) := by omega
 have d1 : (ls.length : Int) ≤ 1000000000000 := by have := h.d2; have := h.max; omega
 have e1 : ((ls.length + 1 : Nat) : Int) - 1 = (ls.length : Int) := by omega
 have e2 : (ls.length : Int) < ((ls.length + 1 : Nat) : Int) := by omega
 have w0 : (0 : Int) ≤ (st.loops : Int) := by omega
 have w1 : (st.loops : Int) ≤ 1000000000000 := by omega
 obtain ⟨w1', hw1⟩ : ∃ W, w.setCell ⟨pl, ls.length, none⟩ (.int .i64 ((st.loops : Int) + 1)) = W := ⟨_, rfl⟩
 have K1 := Lib.hid (show Kv B w w1'.drew from by rw [← hw1]; exact S1.out.2.drew)
 have C1 := Lib.hid (hB t w1'.drew B g os ls ((st.loops : Int) + 1) (ScM.enter 2 st) P P2 _ _ _ ps (by show _ = ((st.loops + 1 : Nat) : Int); omega) ht hwt hrt (by rw [← hw1]; exact VQ.drew ⟨_, _, _, S1.out.1⟩) (hsl.kv K1.out hP) hP (hps.kv K1.out hP2) hP2 (htv.kv K1.out hP) (by show st.ct + 1 + _ ≤ _; omega))
 have CT := Lib.hid (blkR_ct (ps := ps) hx hwt (ScM.enter 2 st))
 have HC := Lib.hid hc
 have HW1 := Lib.hid hw1
 clear h hsl hps htv hc hP hP2 ht hwt hrt hcl hct hl1 S1 hw1 hx hB
 go_enter Try.func57, Try.ntmps57
 go_wp2_with fail
 go_region
 all_goals
  rw [HW1.out]
  clear x0 x1 c0 c1 c2 c3 c4
  go_wp2_with (go_at_call 20; refine C1.out.mono ?_; rintro e w2 ⟨rfl, ⟨vn2, vw2, vl2, h2⟩, k2⟩; obtain ⟨p2, c2', rfl, hc2, ⟨x0, x1⟩, -⟩ := ir_shape h2.loops; obtain ⟨⟨c0, c1, c2, c3, c4⟩, -⟩ := h2.blk.five; have hc3 : ((ls.length + 1 : Nat) : Int) ≤ (c2' : Int) := (by omega); have H2 := Lib.hid h2; have K2 := Lib.hid (K1.out.trans k2); clear h2 k2 hc2)
  have e3 : (st.loops : Int) + 1 - 1 = (st.loops : Int) := by omega
  go_region
  all_goals
   go_wp2_with fail
   go_end0
   have r := H2.out.setLoops (st' := ScM.scope 2 ps (fun s => ScM.runs (ScM.sem t).2 (ScM.runs (ScM.sem x).2 s)) st) rfl (st.loops : Int) rfl rfl rfl rfl (Nat.le_refl _) (by have := CT.out.1; have := HC.out; show (blkR ps t x (ScM.enter 2 st)).ct ≤ _; have e : (ScM.enter 2 st).ct = st.ct + 1 := rfl; omega) ⟨by omega, by have := H2.out.l1; show (st.loops : Int) ≤ ((blkR ps t x (ScM.enter 2 st)).ct : Int); omega⟩
   exact ⟨rfl, ⟨_, _, _, r.1.drew⟩, K2.out.trans r.2.drew⟩
end Go.Proofs.Yteakhlnnepjhpaa
