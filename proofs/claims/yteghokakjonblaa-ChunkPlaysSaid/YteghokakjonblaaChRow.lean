/- Package chunk: a row of chunks in memory. -/
import Derived.Test.YteghokakjonblaaChHeap
namespace Go.Proofs.Yteghokakjonblaa
open Go.RowKit Go.Lib
set_option linter.unusedVariables false
/-- A chunk: where its texts lie, its room, its texts. -/
structure Ck where
  b : Nat
  off : Nat
  cap : Nat
  l : List ByteArray
def ckv (c : Ck) : Value := .slice (some ⟨c.b, c.off, none⟩) c.l.length c.cap
def CkAt (w : World) (c : Ck) : Prop := Sl w c.b c.off c.cap (c.l.map Value.string)
def Ck.rng (c : Ck) : Addr → Prop := Rng c.b c.off c.cap
def flat (cs : List Ck) : List ByteArray := (cs.map Ck.l).flatten
/-- A row: where its chunks' slices lie, their room, its chunks, its count. -/
structure Ch where
  B : Option Nat
  cap : Nat
  cs : List Ck
  n : Nat
def hdv (B : Option Nat) (n cap : Nat) : Value := .slice (B.map fun b => ⟨b, 0, none⟩) n cap
structure Lies (w : World) (q : Nat) (R : Ch) : Prop where
  head : w.cell? ⟨q, 0, none⟩ = some (hdv R.B R.cs.length R.cap)
  num : w.cell? ⟨q, 1, none⟩ = some (.int .i64 (R.n : Int))
  free : ∀ i, w.frozen? ⟨q, i, none⟩ = false
  lt : q < w.heap.size
  none_ : R.B = none → R.cs = [] ∧ R.cap = 0
  some_ : ∀ B, R.B = some B → Sl w B 0 R.cap (R.cs.map ckv)
  Bq : ∀ B, R.B = some B → B ≠ q
  ck : ∀ c ∈ R.cs, CkAt w c
  cq : ∀ c ∈ R.cs, c.b ≠ q
  cB : ∀ B, R.B = some B → ∀ c ∈ R.cs, c.b ≠ B
  apart : R.cs.Pairwise fun c d => ∀ a, c.rng a → ¬ d.rng a
/-- The row's blocks. -/
def inRow (q : Nat) (R : Ch) (k : Nat) : Prop := k = q ∨ R.B = some k ∨ ∃ c ∈ R.cs, c.b = k
theorem ck_one (l : List ByteArray) : ∀ v ∈ l.map Value.string, v.oneCell' = true := fun v hv => by
  obtain ⟨s, _, rfl⟩ := List.mem_map.1 hv
  rfl
theorem flat_nil : flat [] = [] := rfl
theorem flat_cons (c : Ck) (r : List Ck) : flat (c :: r) = c.l ++ flat r := by unfold flat; simp
theorem flat_app (a b : List Ck) : flat (a ++ b) = flat a ++ flat b := by unfold flat; simp
theorem flat_mid (a b : List Ck) (c : Ck) : flat (a ++ c :: b) = flat a ++ (c.l ++ flat b) := by rw [flat_app, flat_cons]
section
variable {D : Addr → Prop} {w w' : World} {q : Nat} {R : Ch}
theorem Lies.turn (h : Lies w q R) (t : Turn D w w') (hq : ∀ i, ¬ D ⟨q, i, none⟩) (hB : ∀ B, R.B = some B → ∀ a, a.block = B → ¬ D a) (hc : ∀ c ∈ R.cs, ∀ a, c.rng a → ¬ D a) : Lies w' q R :=
  ⟨by rw [t.cell _ h.lt (hq 0)]; exact h.head, by rw [t.cell _ h.lt (hq 1)]; exact h.num, fun i => by rw [t.frozen _ h.lt]; exact h.free i, Nat.lt_of_lt_of_le h.lt t.size, h.none_,
   fun B e => (h.some_ B e).turn t fun a ha => hB B e a ha.1, h.Bq, fun c hcm => (h.ck c hcm).turn t (hc c hcm), h.cq, h.cB, h.apart⟩
theorem Lies.below (h : Lies w q R) (t : Below w.heap.size w w') : Lies w' q R := h.turn (D := fun _ => False) (Turn.of_below t) (fun _ e => e) (fun _ _ _ _ e => e) fun _ _ _ _ e => e
theorem Lies.in_lt (h : Lies w q R) {k : Nat} (e : inRow q R k) : k < w.heap.size := by
  rcases e with rfl | e | ⟨c, hc, rfl⟩
  · exact h.lt
  · exact (h.some_ k e).lt
  · exact (h.ck c hc).lt
/-- Another count. -/
theorem Lies.count (h : Lies w q R) (m : Nat) : Lies (w.setCell ⟨q, 1, none⟩ (.int .i64 (m : Int))) q { R with n := m } ∧ Turn (fun a => a.block = q) w (w.setCell ⟨q, 1, none⟩ (.int .i64 (m : Int))) := by
  have t : Turn (fun a => a = ⟨q, 1, none⟩) w (w.setCell ⟨q, 1, none⟩ (.int .i64 (m : Int))) := Turn.set (D := fun a => a = ⟨q, 1, none⟩) w rfl _
  refine ⟨⟨?_, World.cell?_setCell_same _ _ _ h.num, fun i => by rw [t.frozen _ h.lt]; exact h.free i, Nat.lt_of_lt_of_le h.lt t.size, h.none_, fun B e => (h.some_ B e).turn t fun a ha e' => ?_, h.Bq, fun c hc => (h.ck c hc).turn t fun a ha e' => ?_, h.cq, h.cB, h.apart⟩, t.wide fun a e => by rw [e]⟩
  · rw [t.cell _ h.lt (fun e => by injection e with _ e2 _; exact absurd e2 (by decide))]; exact h.head
  · rw [e'] at ha; exact h.Bq B e ha.1.symm
  · rw [e'] at ha; exact h.cq c hc ha.1.symm
theorem pw_mid {α : Type} {r : α → α → Prop} {pre post : List α} {c d : α} (h : (pre ++ c :: post).Pairwise r) (h1 : ∀ x ∈ pre, r x c → r x d) (h2 : ∀ x ∈ post, r c x → r d x) : (pre ++ d :: post).Pairwise r := by
  rw [List.pairwise_append, List.pairwise_cons] at h ⊢
  refine ⟨h.1, ⟨fun x hx => h2 x hx (h.2.1.1 x hx), h.2.1.2⟩, fun x hx y hy => ?_⟩
  rcases List.mem_cons.1 hy with rfl | hy
  · exact h1 x hx (h.2.2 x hx c List.mem_cons_self)
  · exact h.2.2 x hx y (List.mem_cons_of_mem _ hy)
theorem Lies.split (h : Lies w q R) {pre post : List Ck} {c : Ck} (e : R.cs = pre ++ c :: post) : ∀ x, x ∈ pre ∨ x ∈ post → ∀ a, x.rng a → ¬ c.rng a := by
  have p := h.apart
  rw [e, List.pairwise_append, List.pairwise_cons] at p
  intro x hx a ha hc
  rcases hx with hx | hx
  · exact p.2.2 x hx c List.mem_cons_self a ha hc
  · exact p.2.1.1 x hx a hc ha
theorem Lies.headSome (h : Lies w q R) {c : Ck} (hc : c ∈ R.cs) : ∃ B, R.B = some B := by
  rcases e : R.B with _ | B
  · rw [(h.none_ e).1] at hc; cases hc
  · exact ⟨B, rfl⟩
/-- The slot of a chunk. -/
theorem Lies.slot (h : Lies w q R) {pre post : List Ck} {c : Ck} {B : Nat} (e : R.cs = pre ++ c :: post) (eB : R.B = some B) : w.cell? ⟨B, pre.length, none⟩ = some (ckv c) := by
  have := (h.some_ B eB).get pre.length (ckv c) (by rw [e]; simp)
  rwa [Nat.zero_add] at this
/-- One chunk turned, and its slot written. -/
theorem Lies.setChunk (h : Lies w q R) {pre post : List Ck} {c c' : Ck} {B : Nat} (e : R.cs = pre ++ c :: post) (eB : R.B = some B) {w1 : World} (t : Turn c.rng w w1) (k : CkAt w1 c') (hr : (c'.b = c.b ∧ ∀ a, c'.rng a → c.rng a) ∨ w.heap.size ≤ c'.b) :
    Lies (w1.setCell ⟨B, pre.length, none⟩ (ckv c')) q { R with cs := pre ++ c' :: post } ∧ Turn (fun a => a.block = B ∨ a.block = c.b) w (w1.setCell ⟨B, pre.length, none⟩ (ckv c')) := by
  have cm : c ∈ R.cs := by rw [e]; simp
  have far : ∀ a, c'.rng a → a.block = c.b ∨ w.heap.size ≤ a.block := fun a ha => by
    rcases hr with ⟨x, y⟩ | x
    · exact .inl (ha.1.trans x)
    · exact .inr (by rw [ha.1]; exact x)
  have c'B : ∀ B', R.B = some B' → c'.b ≠ B' := fun B' e' z => by
    rcases hr with ⟨x, y⟩ | x
    · exact h.cB B' e' c cm (by rw [← x, z])
    · have := (h.some_ B' e').lt; omega
  have c'q : c'.b ≠ q := fun z => by
    rcases hr with ⟨x, y⟩ | x
    · exact h.cq c cm (by rw [← x, z])
    · have := h.lt; omega
  have sep := h.split e
  have old : ∀ x, x ∈ pre ∨ x ∈ post → x ∈ R.cs := fun x hx => by rw [e]; rcases hx with y | y <;> simp [y]
  have sB := h.some_ B eB
  have sB1 : Sl w1 B 0 R.cap (R.cs.map ckv) := sB.turn t fun a ha hc => h.cB B eB c cm (hc.1.symm.trans ha.1)
  have lenB : pre.length < R.cs.length := by rw [e]; simp
  have sl2 : Sl (w1.setCell ⟨B, pre.length, none⟩ (ckv c')) B 0 R.cap ((pre ++ c' :: post).map ckv) := by
    have := sB1.lay pre.length [ckv c'] ((pre ++ c' :: post).map ckv) (fun v hv => by simp at hv; subst hv; rfl) (by have := sB1.len; rw [List.length_map] at this; show pre.length + 1 ≤ R.cap; omega) (by
      have := sB1.len; rw [e] at this; simpa using this) (fun j v hj => by
      rw [List.map_append, List.map_cons, List.getElem?_append, List.length_map] at hj
      split at hj
      · rename_i y
        refine .inr ⟨.inl y, ?_⟩
        rw [e, List.map_append, List.getElem?_append_left (by simpa using y)]; exact hj
      · rename_i y
        rcases Nat.eq_or_lt_of_le (Nat.le_of_not_lt y) with z | z
        · subst z
          refine .inl ⟨Nat.le_refl _, ?_⟩
          rw [Nat.sub_self] at hj ⊢; exact hj
        · refine .inr ⟨.inr (by show pre.length + 1 ≤ j; omega), ?_⟩
          rw [e, List.map_append, List.map_cons, List.getElem?_append_right (by rw [List.length_map]; omega), List.length_map, show j - pre.length = (j - pre.length - 1) + 1 by omega, List.getElem?_cons_succ]
          rw [show j - pre.length = (j - pre.length - 1) + 1 by omega, List.getElem?_cons_succ] at hj
          exact hj)
    rw [Nat.zero_add] at this
    exact this
  have t2 : Turn (fun a => a.block = B) w1 (w1.setCell ⟨B, pre.length, none⟩ (ckv c')) := Turn.set (D := fun a => a.block = B) w1 rfl _
  have T : Turn (fun a => a.block = B ∨ c.rng a) w (w1.setCell ⟨B, pre.length, none⟩ (ckv c')) := (t.wide fun a x => .inr x).trans t2 fun a x => .inl (.inl x)
  have Dq : ∀ i, ¬ (q = B ∨ c.rng ⟨q, i, none⟩) := fun i x => by
    rcases x with x | x
    · exact h.Bq B eB x.symm
    · exact h.cq c cm x.1.symm
  refine ⟨⟨by rw [T.cell _ h.lt (Dq 0)]; have := h.head; rw [e] at this; simpa using this, by rw [T.cell _ h.lt (Dq 1)]; exact h.num, fun i => by rw [T.frozen _ h.lt]; exact h.free i, Nat.lt_of_lt_of_le h.lt T.size, (fun z => by rw [eB] at z; cases z), fun B' e' => ?_, h.Bq, fun x hx => ?_, fun x hx => ?_, fun B' e' x hx => ?_, ?_⟩, T.wide fun a x => x.imp id fun y => y.1⟩
  · rw [eB] at e'; injection e' with e'; subst e'; exact sl2
  · rcases List.mem_append.1 hx with y | y
    · exact (h.ck x (old x (.inl y))).turn T fun a ha z => by
        rcases z with z | z
        · exact h.cB B eB x (old x (.inl y)) (ha.1.symm.trans z)
        · exact sep x (.inl y) a ha z
    · rcases List.mem_cons.1 y with rfl | y
      · exact k.turn t2 fun a ha z => c'B B eB (ha.1.symm.trans z)
      · exact (h.ck x (old x (.inr y))).turn T fun a ha z => by
          rcases z with z | z
          · exact h.cB B eB x (old x (.inr y)) (ha.1.symm.trans z)
          · exact sep x (.inr y) a ha z
  · rcases List.mem_append.1 hx with y | y
    · exact h.cq x (old x (.inl y))
    · rcases List.mem_cons.1 y with rfl | y
      · exact c'q
      · exact h.cq x (old x (.inr y))
  · rcases List.mem_append.1 hx with y | y
    · exact h.cB B' e' x (old x (.inl y))
    · rcases List.mem_cons.1 y with rfl | y
      · exact c'B B' e'
      · exact h.cB B' e' x (old x (.inr y))
  · have p := h.apart
    rw [e] at p
    have away : ∀ x, x ∈ pre ∨ x ∈ post → ∀ a, x.rng a → ¬ c'.rng a := fun x hx a ha hc => by
      rcases hr with ⟨_, y⟩ | y
      · exact sep x hx a ha (y a hc)
      · have := (h.ck x (old x hx)).lt
        have e1 := ha.1
        have e2 := hc.1
        omega
    exact pw_mid p (fun x hx _ a ha hc => away x (.inl hx) a ha hc) (fun x hx _ a ha hc => away x (.inr hx) a hc ha)
/-- Another row of slots, and the row's first cell written. -/
theorem Lies.setHead (h : Lies w q R) {D : Addr → Prop} {w1 : World} (t : Turn D w w1) (hq : ∀ i, ¬ D ⟨q, i, none⟩) {B cap : Nat} {cs : List Ck} (s : Sl w1 B 0 cap (cs.map ckv)) (Bq : B ≠ q) (ck : ∀ c ∈ cs, CkAt w1 c) (cq : ∀ c ∈ cs, c.b ≠ q) (cB : ∀ c ∈ cs, c.b ≠ B) (ap : cs.Pairwise fun c d => ∀ a, c.rng a → ¬ d.rng a) :
    Lies (w1.setCell ⟨q, 0, none⟩ (hdv (some B) cs.length cap)) q { R with B := some B, cap := cap, cs := cs } ∧ Turn (fun a => D a ∨ a.block = q) w (w1.setCell ⟨q, 0, none⟩ (hdv (some B) cs.length cap)) := by
  have h1 : w1.cell? ⟨q, 0, none⟩ = some (hdv R.B R.cs.length R.cap) := by rw [t.cell _ h.lt (hq 0)]; exact h.head
  have n1 : w1.cell? ⟨q, 1, none⟩ = some (.int .i64 (R.n : Int)) := by rw [t.cell _ h.lt (hq 1)]; exact h.num
  have lt1 : q < w1.heap.size := Nat.lt_of_lt_of_le h.lt t.size
  have t2 : Turn (fun a => a = ⟨q, 0, none⟩) w1 (w1.setCell ⟨q, 0, none⟩ (hdv (some B) cs.length cap)) := Turn.set (D := fun a => a = ⟨q, 0, none⟩) w1 rfl _
  refine ⟨⟨World.cell?_setCell_same _ _ _ h1, by rw [t2.cell _ lt1 (fun z => by injection z with _ z2 _; exact absurd z2 (by decide))]; exact n1, fun i => by rw [t2.frozen _ lt1, t.frozen _ h.lt]; exact h.free i, Nat.lt_of_lt_of_le lt1 t2.size, (fun z => nomatch z), fun B' e' => ?_, fun B' e' => ?_, fun c hc => (ck c hc).turn t2 fun a ha z => ?_, cq, fun B' e' => ?_, ap⟩, (t.wide fun a x => .inl x).trans (t2.wide (E := fun a => a.block = q) fun a x => by rw [x]) fun a x => .inl (.inr x)⟩
  · injection e' with e'; subst e'
    exact s.turn t2 fun a ha z => by rw [z] at ha; exact Bq ha.1.symm
  · injection e' with e'; subst e'; exact Bq
  · rw [z] at ha; exact cq c hc ha.1.symm
  · injection e' with e'; subst e'; exact cB
end
end Go.Proofs.Yteghokakjonblaa
