/- Package table: some names moved from the first array to the second one. -/
import Derived.Test.YtedpanfdkdbblaaTbGet
namespace Go.Proofs.Ytedpanfdkdbblaa
open Go.RowKit
set_option linter.unusedVariables false
section
variable {w : World} {q : Nat} {T : Tb}
theorem Head.setPassed (h : Head w q T) (k : Nat) : Head (w.setCell ⟨q, 2, none⟩ (.int .i64 (k : Int))) q { T with passed := k } := by
  obtain ⟨a, b, c, d, e, f, g⟩ := h
  refine ⟨?_, ?_, ?_, ?_, ?_, fun i => ?_, ?_⟩ <;> go_simp
theorem Head.setWork (h : Head w q T) (k : Nat) : Head (w.setCell ⟨q, 4, none⟩ (.int .i64 (k : Int))) q { T with work := k } := by
  obtain ⟨a, b, c, d, e, f, g⟩ := h
  refine ⟨?_, ?_, ?_, ?_, ?_, fun i => ?_, ?_⟩ <;> go_simp
theorem Head.setCount (h : Head w q T) (k : Nat) : Head (w.setCell ⟨q, 3, none⟩ (.int .i64 (k : Int))) q { T with count := k } := by
  obtain ⟨a, b, c, d, e, f, g⟩ := h
  refine ⟨?_, ?_, ?_, ?_, ?_, fun i => ?_, ?_⟩ <;> go_simp
theorem Head.setTwo (h : Head w q T) (o : Option (Nat × List (List Nd))) : Head (w.setCell ⟨q, 1, none⟩ (arrV o)) q { T with two := o } := by
  obtain ⟨a, b, c, d, e, f, g⟩ := h
  refine ⟨?_, ?_, ?_, ?_, ?_, fun i => ?_, ?_⟩ <;> go_simp
theorem Head.setEnd (h : Head w q T) {B : Nat} {cs : List (List Nd)} : Head (((w.setCell ⟨q, 0, none⟩ (.slice (some ⟨B, 0, none⟩) cs.length cs.length)).setCell ⟨q, 1, none⟩ (.slice none 0 0)).setCell ⟨q, 2, none⟩ (.int .i64 0)) q (ended T B cs) := by
  obtain ⟨a, b, c, d, e, f, g⟩ := h
  refine ⟨?_, ?_, ?_, ?_, ?_, fun i => ?_, ?_⟩ <;> go_simp <;> first | rfl | exact ⟨rfl, rfl⟩
end
/-- A store into the table's own cells leaves the arrays. -/
theorem Lies.own {w : World} {q : Nat} {T T' : Tb} (h : Lies w q T) (ok : Ok q T) {w' : World} (t : Turn (fun a => a.block = q) w w') (hh : Head w' q T') (e1 : T'.B = T.B) (e2 : T'.c = T.c) (e3 : T'.two = T.two) : Lies w' q T' := by
  refine ⟨hh, ?_, fun B cs e => ?_⟩
  · rw [e1, e2]
    exact h.a1.turn t (fun i e => ok.qB e) fun x hx i e => ok.node_q (mem1 hx) e
  · rw [e3] at e
    exact (h.a2 B cs e).turn t (fun i x => ok.two_q e x) fun x hx i y => ok.node_q (mem2 e hx) y
theorem Lies.fall {w : World} {q : Nat} {T : Tb} (h : Lies w q T) (ok : Ok q T) {B : Nat} {cs : List (List Nd)} (e2 : T.two = some (B, cs)) {w' : World} (t : Turn (fun a => a.block = q) w w') (hh : Head w' q (ended T B cs)) : Lies w' q (ended T B cs) := by
  refine ⟨hh, ?_, fun B cs e => (nomatch e)⟩
  exact (h.a2 B cs e2).turn t (fun i x => ok.two_q e2 x) fun x hx i y => ok.node_q (mem2 e2 hx) y
/-- An entry taken out of its slot, ahead of its being put into the second array. -/
theorem Lies.pop {w : World} {q : Nat} {T : Tb} {B : Nat} {cs : List (List Nd)} {e : Nd} {r : List Nd} (h : Lies w q T) (ok : Ok q T) (e2 : T.two = some (B, cs)) (hp : T.passed < T.c.length) (hc : chainAt T.c T.passed = e :: r) (k0 : 0 < cs.length) :
    Head (w.setCell ⟨T.B, T.passed, none⟩ (hd r)) q T ∧ Arr (w.setCell ⟨T.B, T.passed, none⟩ (hd r)) T.B (T.c.set T.passed r) ∧ Arr (w.setCell ⟨T.B, T.passed, none⟩ (hd r)) B cs ∧ NdAt (w.setCell ⟨T.B, T.passed, none⟩ (hd r)) e (hd r) := by
  have t : Turn (fun a => a = ⟨T.B, T.passed, none⟩) w (w.setCell ⟨T.B, T.passed, none⟩ (hd r)) := Turn.set (D := fun a => a = ⟨T.B, T.passed, none⟩) w rfl _
  have c := h.a1.at_ hp
  rw [hc] at c
  have no : ∀ x ∈ nodes T, ∀ i, ¬ (⟨x.b, i, none⟩ : Addr) = ⟨T.B, T.passed, none⟩ := fun x hx i y => by
    injection y with y _ _
    exact ok.node_B hx y
  refine ⟨h.head.turn t fun i y => ?_, h.a1.set t (fun i hi y => ?_) (fun i hi _ x hx => no x (mem1 (List.mem_flatten.2 ⟨_, List.getElem_mem hi, hx⟩))) ⟨?_, ?_, ?_, ?_⟩, (h.a2 B cs e2).turn t (fun i y => ?_) fun x hx => no x (mem2 e2 hx), ?_⟩
  · injection y with y _ _; exact ok.qB y.symm
  · injection y with _ y _; exact hi y
  · exact World.cell?_setCell_same _ _ _ c.at_
  · refine c.seg.2.turn t fun x hx => no x (mem1 (flat_mem (j := T.passed) (by rw [hc]; exact List.mem_cons_of_mem _ hx)))
  · rw [World.frozen?_setCell]; exact c.free
  · rw [World.size_setCell]; exact c.lt
  · injection y with y _ _; exact ok.two_B e2 y
  · exact c.seg.1.turn t (no e (mem1 (flat_mem (j := T.passed) (by rw [hc]; exact List.mem_cons_self))))
theorem shift_apart {q : Nat} {T : Tb} {B : Nat} {cs : List (List Nd)} {e : Nd} {r : List Nd} (ok : Ok q T) (e2 : T.two = some (B, cs)) (hp : T.passed < T.c.length) (hc : chainAt T.c T.passed = e :: r) (k0 : 0 < cs.length) :
    e ∈ nodes T ∧ (∀ y ∈ cs.flatten, y.b ≠ e.b) ∧ (∀ y ∈ (T.c.set T.passed r).flatten, y.b ≠ e.b ∧ y ∈ nodes T) := by
  obtain ⟨-, X, px, h1, h2⟩ := shift_perm e2 hp hc k0 0
  have nd := (px.map Nd.b).nodup_iff.1 ok.nodup
  rw [List.map_cons, List.nodup_cons] at nd
  have ne : ∀ y ∈ X, y.b ≠ e.b := fun y hy z => nd.1 (List.mem_map.2 ⟨y, hy, z⟩)
  exact ⟨px.mem_iff.2 List.mem_cons_self, fun y hy => ne y (h2 y hy), fun y hy => ⟨ne y (h1 y hy), px.mem_iff.2 (List.mem_cons_of_mem _ (h1 y hy))⟩⟩
/-- One entry shifted: the second array's insert, as a call. -/
theorem shift_any {w : World} {q : Nat} {T : Tb} {B : Nat} {cs : List (List Nd)} {e : Nd} {r : List Nd} (h : Lies w q T) (ok : Ok q T) (e2 : T.two = some (B, cs)) (hp : T.passed < T.c.length) (hc : chainAt T.c T.passed = e :: r) (k0 : 0 < cs.length) (k9 : cs.length ≤ 1048576) :
    Calls Try.prog 35 #[.slice (some ⟨B, 0, none⟩) cs.length cs.length, .pointer (some ⟨e.b, 0, none⟩)] (w.setCell ⟨T.B, T.passed, none⟩ (hd r)) fun v w' => v = .returned (.tuple #[]) ∧
      Turn (fun a => a.block ∈ blocks q T ∧ a.block ≠ q) w w' ∧ Lies w' q (shift T T.passed r B cs e T.work) := by
  obtain ⟨hh, a1, a2, ne⟩ := h.pop ok e2 hp hc k0
  obtain ⟨em, f2, f1⟩ := shift_apart ok e2 hp hc k0
  have inb : ∀ x ∈ nodes T, x.b ∈ blocks q T := fun x hx => List.mem_cons_of_mem _ (List.mem_cons_of_mem _ (List.mem_append_right _ (List.mem_map.2 ⟨x, hx, rfl⟩)))
  refine (insert_any a2 ne (ok.node_two e2 em) f2 (fun y hy => ok.node_two e2 (mem2 e2 hy)) (Nat.le_trans (ok.short e em) (by decide)) k0 k9).mono ?_
  rintro v w' ⟨hv, t, a3⟩
  have tall : Turn (fun a => a.block ∈ blocks q T ∧ a.block ≠ q) w w' := by
    refine Turn.trans (Turn.set w (D := fun a => a.block ∈ blocks q T ∧ a.block ≠ q) (a := ⟨T.B, T.passed, none⟩) ⟨List.mem_cons_of_mem _ List.mem_cons_self, ok.qB⟩ (hd r)) t fun a ha => .inl ?_
    rcases ha with rfl | rfl
    · exact ⟨inb e em, ok.node_q em⟩
    · exact ⟨List.mem_cons_of_mem _ (List.mem_cons_of_mem _ (List.mem_append_left _ (by rw [e2]; simp [B2s]))), ok.two_q e2⟩
  refine ⟨hv, tall, ⟨?_, ?_, fun B' cs' e' => ?_⟩⟩
  · have hx := hh.turn t fun i y => by
      rcases y with y | y
      · injection y with y _ _; exact ok.node_q em y.symm
      · injection y with y _ _; exact ok.two_q e2 y.symm
    have f := hx.first; have s := hx.second
    refine ⟨?_, ?_, hx.passed, hx.count, hx.work, hx.free, hx.lt⟩
    · rw [f]
      show _ = some (Value.slice (some ⟨T.B, 0, none⟩) (T.c.set T.passed r).length (T.c.set T.passed r).length)
      rw [List.length_set]
    · rw [s, e2]
      show some (Value.slice (some ⟨B, 0, none⟩) cs.length cs.length) = some (Value.slice (some ⟨B, 0, none⟩) (cs.set (sl cs e.s) (e :: chainAt cs (sl cs e.s))).length (cs.set (sl cs e.s) (e :: chainAt cs (sl cs e.s))).length)
      rw [List.length_set]
  · exact a1.turn t (fun i y => by
      rcases y with y | y
      · injection y with y _ _; exact ok.node_B em y.symm
      · injection y with y _ _; exact ok.two_B e2 y.symm) fun x hx i y => by
      rcases y with y | y
      · injection y with y _ _; exact (f1 x hx).1 y
      · injection y with y _ _; exact ok.node_two e2 (f1 x hx).2 y
  · injection e' with e'
    injection e' with e1 e3
    subst e1; subst e3
    exact a3
end Go.Proofs.Ytedpanfdkdbblaa
