/- Package table: a new name taken in. -/
import Derived.Test.YtedpanfdkdbblaaTbFit
import Derived.Test.YtedpanfdkdbblaaLaid
namespace Go.Proofs.Ytedpanfdkdbblaa
open Go.RowKit
set_option linter.unusedVariables false
theorem Lies.own2 {w : World} {q : Nat} {T T' : Tb} (h : Lies w q T) (ok : Ok q T') {w' : World} (t : Turn (fun a => a.block = q) w w') (hh : Head w' q T') (e1 : T'.B = T.B) (e2 : T'.c = T.c) (e3 : T'.two = T.two) : Lies w' q T' := by
  refine ⟨hh, ?_, fun B cs e => ?_⟩
  · have a := h.a1
    rw [← e1, ← e2] at a
    exact a.turn t (fun i e => ok.qB e) fun x hx i e => ok.node_q (mem1 hx) e
  · have a := h.a2 B cs (by rw [← e3]; exact e)
    exact a.turn t (fun i x => ok.two_q e x) fun x hx i y => ok.node_q (mem2 e hx) y
/-- The table with an entry more. -/
def addTo (T : Tb) (x : Nd) : Tb :=
  match T.two with
  | none => { T with c := T.c.set (sl T.c x.s) (x :: chainAt T.c (sl T.c x.s)) }
  | some (B, cs) => { T with two := some (B, cs.set (sl cs x.s) (x :: chainAt cs (sl cs x.s))) }
theorem flat_push {cs : List (List Nd)} {j : Nat} (x : Nd) (hj : j < cs.length) : (cs.set j (x :: chainAt cs j)).flatten.Perm (x :: cs.flatten) := by
  obtain ⟨A, C, h1, h2⟩ := flat_at hj
  rw [h1, h2]
  have : A ++ x :: chainAt cs j ++ C = A ++ x :: (chainAt cs j ++ C) := by simp
  rw [this]
  refine List.perm_middle.trans ?_
  simp
theorem add_perm {T : Tb} {x : Nd} (f : Fits T) : (nodes (addTo T x)).Perm (x :: nodes T) ∧ (addTo T x).B = T.B ∧ B2s (addTo T x).two = B2s T.two := by
  unfold addTo nodes
  rcases e : T.two with _ | ⟨B, cs⟩
  · refine ⟨?_, rfl, rfl⟩
    show ((T.c.set _ _).flatten ++ []).Perm (x :: (T.c.flatten ++ []))
    exact (flat_push x (slotOf_lt _ _ f.k0)).append_right []
  · refine ⟨?_, rfl, rfl⟩
    show (T.c.flatten ++ (cs.set _ _).flatten).Perm (x :: (T.c.flatten ++ cs.flatten))
    exact ((flat_push x (slotOf_lt _ _ (f.j0 B cs e))).append_left _).trans List.perm_middle
theorem add_blocks {q : Nat} {T : Tb} {x : Nd} (f : Fits T) : (blocks q { addTo T x with count := T.count + 1 }).Perm (x.b :: blocks q T) := by
  obtain ⟨pm, eB, e2⟩ := add_perm (x := x) f
  have : (blocks q { addTo T x with count := T.count + 1 }) = q :: T.B :: (B2s T.two ++ (nodes (addTo T x)).map Nd.b) := by
    show q :: (addTo T x).B :: (B2s (addTo T x).two ++ (nodes (addTo T x)).map Nd.b) = _
    rw [eB, e2]
  rw [this]
  refine (((pm.map Nd.b).append_left (B2s T.two)).cons T.B |>.cons q).trans ?_
  unfold blocks
  rw [List.map_cons]
  refine ((List.perm_middle.cons T.B).cons q).trans ?_
  exact ((List.Perm.swap _ _ _).cons q).trans (List.Perm.swap _ _ _)
theorem Ok.add {q : Nat} {T : Tb} {x : Nd} (ok : Ok q T) (f : Fits T) (hb : x.b ∉ blocks q T) (hs : ∀ y ∈ nodes T, y.s ≠ x.s) (h64 : x.s.length ≤ 64) : Ok q { addTo T x with count := T.count + 1 } := by
  obtain ⟨pm, eB, e2⟩ := add_perm (x := x) f
  have pmb := add_blocks (q := q) (x := x) f
  have nsl : ∀ i, ∀ y ∈ chainAt (addTo T x).c i, sl (addTo T x).c y.s = i := fun i y hy => by
    unfold addTo at hy ⊢
    rcases e : T.two with _ | ⟨B, cs⟩
    · rw [e] at hy
      dsimp only at hy ⊢
      unfold sl
      rw [List.length_set]
      have hy : y ∈ chainAt (T.c.set (slotOf T.c.length x.s) (x :: chainAt T.c (slotOf T.c.length x.s))) i := hy
      rw [chainAt_set _ _ _ _ (slotOf_lt _ _ f.k0)] at hy
      split at hy
      · rename_i k
        rcases List.mem_cons.1 hy with z | z
        · rw [z]; exact k
        · rw [← k]; exact ok.p1 _ y z
      · exact ok.p1 i y hy
    · rw [e] at hy
      exact ok.p1 i y hy
  refine ⟨pmb.nodup_iff.2 (List.nodup_cons.2 ⟨hb, ok.apart⟩), nsl, fun B' cs' e' i y hy => ?_, ?_, fun y hy => ?_, ?_, fun i hi => ?_, ?_, fun e => ?_⟩
  · have e' : (addTo T x).two = some (B', cs') := e'
    unfold addTo at e'
    rcases e : T.two with _ | ⟨B, cs⟩
    · rw [e] at e'
      dsimp only at e'
      cases e'
    · rw [e] at e'
      dsimp only at e'
      injection e' with e'
      injection e' with e1 e3
      subst e3
      unfold sl
      rw [List.length_set]
      have hy : y ∈ chainAt (cs.set (slotOf cs.length x.s) (x :: chainAt cs (slotOf cs.length x.s))) i := hy
      rw [chainAt_set _ _ _ _ (slotOf_lt _ _ (f.j0 B cs e))] at hy
      split at hy
      · rename_i k
        rcases List.mem_cons.1 hy with z | z
        · rw [z]; exact k
        · rw [← k]; exact ok.p2 B cs e _ y z
      · exact ok.p2 B cs e i y hy
  · refine (pm.map Nd.s).nodup_iff.2 ?_
    rw [List.map_cons]
    exact List.nodup_cons.2 ⟨fun m => by obtain ⟨y, hy, e⟩ := List.mem_map.1 m; exact hs y hy e, ok.names⟩
  · rcases List.mem_cons.1 (pm.mem_iff.1 hy) with e | e
    · rw [e]; exact h64
    · exact ok.short y e
  · show T.count + 1 = (nodes (addTo T x)).length
    rw [pm.length_eq, ok.cnt, List.length_cons]
  · show chainAt (addTo T x).c i = []
    have hi' : i < (addTo T x).passed := hi
    unfold addTo at hi' ⊢
    rcases e : T.two with _ | ⟨B, cs⟩
    · rw [e] at hi'
      have := ok.one e
      dsimp only at hi'
      omega
    · rw [e] at hi'
      exact ok.left i hi'
  · show (addTo T x).passed ≤ (addTo T x).c.length
    unfold addTo
    rcases T.two with _ | ⟨B, cs⟩
    · dsimp only
      rw [List.length_set]; exact ok.pass
    · exact ok.pass
  · have e : (addTo T x).two = none := e
    show (addTo T x).passed = 0
    unfold addTo at e ⊢
    rcases k : T.two with _ | ⟨B, cs⟩
    · exact ok.one k
    · rw [k] at e; cases e
/-- Memory behind an insert of a new entry. -/
theorem Lies.add {w w' : World} {q : Nat} {T : Tb} {x : Nd} (h : Lies w q T) (ok : Ok q T) (f : Fits T) (hb : x.b ∉ blocks q T) {B : Nat} {cs : List (List Nd)} (hB : (T.two = none ∧ B = T.B ∧ cs = T.c) ∨ T.two = some (B, cs))
    (t : Turn (fun a => a = ⟨x.b, 2, none⟩ ∨ a = ⟨B, sl cs x.s, none⟩) w w') (a : Arr w' B (cs.set (sl cs x.s) (x :: chainAt cs (sl cs x.s)))) : Lies w' q (addTo T x) := by
  have xq : x.b ≠ q := fun e => hb (e ▸ List.mem_cons_self)
  have xB : x.b ≠ T.B := fun e => hb (e ▸ List.mem_cons_of_mem _ List.mem_cons_self)
  have xn : ∀ y ∈ nodes T, y.b ≠ x.b := fun y hy e => hb (e ▸ List.mem_cons_of_mem _ (List.mem_cons_of_mem _ (List.mem_append_right _ (List.mem_map.2 ⟨y, hy, rfl⟩))))
  rcases hB with ⟨e, rfl, rfl⟩ | e
  · have hx := h.head.turn t fun i y => by
      rcases y with y | y
      · injection y with y _ _; exact xq y.symm
      · injection y with y _ _; exact ok.qB y.symm
    unfold addTo
    rw [e]
    refine ⟨⟨?_, ?_, hx.passed, hx.count, hx.work, hx.free, hx.lt⟩, a, fun B cs e' => ?_⟩
    · show _ = some (Value.slice (some ⟨T.B, 0, none⟩) (T.c.set _ _).length (T.c.set _ _).length)
      rw [List.length_set, hx.first]
    · show _ = some (arrV none)
      rw [hx.second, e]
    · have e' : (none : Option (Nat × List (List Nd))) = some (B, cs) := e'
      cases e'
  · have hx := h.head.turn t fun i y => by
      rcases y with y | y
      · injection y with y _ _; exact xq y.symm
      · injection y with y _ _; exact ok.two_q e y.symm
    unfold addTo
    rw [e]
    refine ⟨⟨hx.first, ?_, hx.passed, hx.count, hx.work, hx.free, hx.lt⟩, ?_, fun B' cs' e' => ?_⟩
    · rw [hx.second, e]
      show some (Value.slice (some ⟨B, 0, none⟩) cs.length cs.length) = some (Value.slice (some ⟨B, 0, none⟩) (cs.set _ _).length (cs.set _ _).length)
      rw [List.length_set]
    · exact h.a1.turn t (fun i y => by
        rcases y with y | y
        · injection y with y _ _; exact xB y.symm
        · injection y with y _ _; exact ok.two_B e y.symm) fun z hz i y => by
        rcases y with y | y
        · injection y with y _ _; exact xn z (mem1 hz) y
        · injection y with y _ _; exact ok.node_two e (mem1 hz) y
    · injection e' with e'
      injection e' with e1 e3
      subst e1; subst e3
      exact a
end Go.Proofs.Ytedpanfdkdbblaa
