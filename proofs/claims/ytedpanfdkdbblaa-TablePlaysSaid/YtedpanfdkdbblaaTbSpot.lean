/- A chain of a table turned: what lies in memory then, and that the shape is kept. -/
import Derived.Test.YtedpanfdkdbblaaTbAdd
namespace Go.Proofs.Ytedpanfdkdbblaa
open Go.RowKit
set_option linter.unusedVariables false
theorem inj_of : ∀ {l : List Nd}, (l.map Nd.b).Nodup → ∀ {x y : Nd}, x ∈ l → y ∈ l → x.b = y.b → x = y
  | [], _, _, _, h, _, _ => by cases h
  | z :: r, hn, x, y, hx, hy, e => by
    rw [List.map_cons, List.nodup_cons] at hn
    rcases List.mem_cons.1 hx with a | a
    · rcases List.mem_cons.1 hy with b | b
      · rw [a, b]
      · exact absurd (List.mem_map.2 ⟨y, b, by rw [← e, a]⟩) hn.1
    · rcases List.mem_cons.1 hy with b | b
      · exact absurd (List.mem_map.2 ⟨x, a, by rw [e, b]⟩) hn.1
      · exact inj_of hn.2 a b e
/-- One of a table's arrays. -/
def Of (T : Tb) (b : Bool) (B : Nat) (cs : List (List Nd)) : Prop := if b then B = T.B ∧ cs = T.c else T.two = some (B, cs)
/-- The table with a chain of one of its arrays turned. -/
def setc (T : Tb) (b : Bool) (B : Nat) (cs : List (List Nd)) (j : Nat) (ns : List Nd) : Tb := if b then { T with c := cs.set j ns } else { T with two := some (B, cs.set j ns) }
section
variable {q : Nat} {T : Tb} {b : Bool} {B : Nat} {cs : List (List Nd)} {j : Nat}
theorem setc_nodes (h : Of T b B cs) (hj : j < cs.length) : ∃ X Y, nodes T = X ++ chainAt cs j ++ Y ∧ ∀ ns, nodes (setc T b B cs j ns) = X ++ ns ++ Y := by
  obtain ⟨A, C, h1, h2⟩ := flat_at hj
  cases b with
  | true =>
    obtain ⟨rfl, rfl⟩ := h
    refine ⟨A, C ++ second T.two, ?_, fun ns => ?_⟩
    · unfold nodes; rw [h1]; simp
    · show (T.c.set j ns).flatten ++ second T.two = _
      rw [h2]; simp
  | false =>
    have e : T.two = some (B, cs) := h
    refine ⟨T.c.flatten ++ A, C, ?_, fun ns => ?_⟩
    · unfold nodes; rw [e]; show _ ++ cs.flatten = _; rw [h1]; simp
    · show T.c.flatten ++ (cs.set j ns).flatten = _
      rw [h2]; simp
theorem Of.mem (h : Of T b B cs) {x : Nd} (hx : x ∈ cs.flatten) : x ∈ nodes T := by
  cases b with
  | true => obtain ⟨rfl, rfl⟩ := h; exact mem1 hx
  | false => exact mem2 (show T.two = some (B, cs) from h) hx
theorem Of.B_q (h : Of T b B cs) (ok : Ok q T) : B ≠ q := by
  cases b with
  | true => obtain ⟨rfl, rfl⟩ := h; exact ok.qB
  | false => exact ok.two_q (show T.two = some (B, cs) from h)
theorem Of.node_B (h : Of T b B cs) (ok : Ok q T) {x : Nd} (hx : x ∈ nodes T) : x.b ≠ B := by
  cases b with
  | true => obtain ⟨rfl, rfl⟩ := h; exact ok.node_B hx
  | false => exact ok.node_two (show T.two = some (B, cs) from h) hx
theorem Of.arr {w : World} (h : Of T b B cs) (l : Lies w q T) : Arr w B cs := by
  cases b with
  | true => obtain ⟨rfl, rfl⟩ := h; exact l.a1
  | false => exact l.a2 B cs h
theorem Of.place (h : Of T b B cs) (ok : Ok q T) {i : Nat} {x : Nd} (hx : x ∈ chainAt cs i) : sl cs x.s = i := by
  cases b with
  | true => obtain ⟨rfl, rfl⟩ := h; exact ok.p1 i x hx
  | false => exact ok.p2 B cs h i x hx
theorem Of.pos (h : Of T b B cs) (f : Fits T) : 0 < cs.length ∧ cs.length ≤ 1048576 := by
  cases b with
  | true => obtain ⟨rfl, rfl⟩ := h; exact ⟨f.k0, f.k9⟩
  | false => exact ⟨f.j0 B cs h, f.j9 B cs h⟩
theorem setc_B2 (h : Of T b B cs) (ns : List Nd) : (setc T b B cs j ns).B = T.B ∧ B2s (setc T b B cs j ns).two = B2s T.two ∧ (setc T b B cs j ns).c.length = T.c.length ∧ sizeOf2 (setc T b B cs j ns) = sizeOf2 T ∧ (setc T b B cs j ns).count = T.count ∧ (setc T b B cs j ns).work = T.work := by
  cases b with
  | true => obtain ⟨rfl, rfl⟩ := h; exact ⟨rfl, rfl, by show (T.c.set j ns).length = _; rw [List.length_set], rfl, rfl, rfl⟩
  | false =>
    have e : T.two = some (B, cs) := h
    refine ⟨rfl, by rw [e]; rfl, rfl, ?_, rfl, rfl⟩
    unfold sizeOf2
    rw [e]
    show some (cs.set j ns).length = some cs.length
    rw [List.length_set]
theorem Ok.setc (ok : Ok q T) (h : Of T b B cs) (hj : j < cs.length) {ns : List Nd} (hne : chainAt cs j ≠ []) (hb : (ns.map Nd.b).Sublist ((chainAt cs j).map Nd.b)) (hs : (ns.map Nd.s).Sublist ((chainAt cs j).map Nd.s)) {k : Nat} (hk : k = (nodes (setc T b B cs j ns)).length) :
    Ok q { setc T b B cs j ns with count := k } := by
  obtain ⟨X, Y, h1, h2⟩ := setc_nodes h hj
  obtain ⟨e1, e2, e3, -, -, -⟩ := setc_B2 (j := j) h ns
  have sub : ((nodes (Go.Proofs.Ytedpanfdkdbblaa.setc T b B cs j ns)).map Nd.s).Sublist ((nodes T).map Nd.s) := by
    rw [h1, h2]
    simp only [List.map_append]
    exact ((List.Sublist.refl _).append hs).append (List.Sublist.refl _)
  have subb : ((nodes (Go.Proofs.Ytedpanfdkdbblaa.setc T b B cs j ns)).map Nd.b).Sublist ((nodes T).map Nd.b) := by
    rw [h1, h2]
    simp only [List.map_append]
    exact ((List.Sublist.refl _).append hb).append (List.Sublist.refl _)
  have place : ∀ i, ∀ y ∈ chainAt (cs.set j ns) i, sl (cs.set j ns) y.s = i := fun i y hy => by
    unfold sl
    rw [List.length_set]
    rw [chainAt_set _ _ _ _ hj] at hy
    split at hy
    · rename_i e
      obtain ⟨z, hz, ez⟩ := List.mem_map.1 (hs.subset (List.mem_map.2 ⟨y, hy, rfl⟩))
      have := h.place ok hz
      rw [← ez, ← e]
      exact this
    · exact h.place ok hy
  refine ⟨?_, fun i y hy => ?_, fun B' cs' e i y hy => ?_, ?_, fun y hy => ?_, hk, fun i hi => ?_, ?_, fun e => ?_⟩
  · have a := ok.apart
    unfold blocks at a ⊢
    show (q :: (Go.Proofs.Ytedpanfdkdbblaa.setc T b B cs j ns).B :: (B2s (Go.Proofs.Ytedpanfdkdbblaa.setc T b B cs j ns).two ++ (nodes (Go.Proofs.Ytedpanfdkdbblaa.setc T b B cs j ns)).map Nd.b)).Nodup
    rw [e1, e2]
    exact a.sublist ((((List.Sublist.refl _).append subb).cons_cons _).cons_cons _)
  · cases b with
    | true => exact place i y hy
    | false => exact ok.p1 i y hy
  · cases b with
    | true => exact ok.p2 B' cs' e i y hy
    | false =>
      injection e with e
      injection e with e1 e3
      subst e3
      exact place i y hy
  · exact ok.names.sublist sub
  · obtain ⟨z, hz, ez⟩ := List.mem_map.1 (sub.subset (List.mem_map.2 ⟨y, hy, rfl⟩))
    rw [← ez]; exact ok.short z hz
  · cases b with
    | true =>
      obtain ⟨rfl, rfl⟩ := h
      have hi' : i < T.passed := hi
      show chainAt (T.c.set j ns) i = []
      rw [chainAt_set _ _ _ _ hj, if_neg (fun e => hne (by rw [e]; exact ok.left i hi'))]
      exact ok.left i hi'
    | false => exact ok.left i hi
  · show (Go.Proofs.Ytedpanfdkdbblaa.setc T b B cs j ns).passed ≤ (Go.Proofs.Ytedpanfdkdbblaa.setc T b B cs j ns).c.length
    rw [e3]
    cases b <;> exact ok.pass
  · cases b with
    | true => exact ok.one e
    | false => cases e
theorem Lies.setc {w w' : World} (l : Lies w q T) (ok : Ok q T) (h : Of T b B cs) (hj : j < cs.length) {ns : List Nd} {D : Addr → Prop} (t : Turn D w w') (hD : ∀ a, D a → a = ⟨B, j, none⟩ ∨ ∃ z ∈ chainAt cs j, a.block = z.b) (hc : Chain w' ⟨B, j, none⟩ ns) :
    Lies w' q (setc T b B cs j ns) := by
  obtain ⟨X, Y, h1, -⟩ := setc_nodes h hj
  have nd := ok.nodup
  have no : ∀ y ∈ nodes T, y ∉ chainAt cs j → ∀ i, ¬ D ⟨y.b, i, none⟩ := fun y hy hn i hd => by
    rcases hD _ hd with e | ⟨z, hz, e⟩
    · injection e with e _ _; exact h.node_B ok hy e
    · have hz2 : z ∈ nodes T := h.mem (flat_mem hz)
      have e : y.b = z.b := e
      have inj := inj_of nd hy hz2 e
      exact hn (inj ▸ hz)
  have nq : ∀ i, ¬ D ⟨q, i, none⟩ := fun i hd => by
    rcases hD _ hd with e | ⟨z, hz, e⟩
    · injection e with e _ _; exact h.B_q ok e.symm
    · exact ok.node_q (h.mem (flat_mem hz)) e.symm
  have hh := l.head.turn t nq
  have apart : ∀ i, i ≠ j → ∀ y ∈ chainAt cs i, y ∉ chainAt cs j := fun i hi y hy hy2 => hi ((h.place ok hy).symm.trans (h.place ok hy2))
  have arr : Arr w' B (cs.set j ns) := (h.arr l).set t (fun i hi hd => by
      rcases hD _ hd with e | ⟨z, hz, e⟩
      · injection e with _ e _; exact hi e
      · exact h.node_B ok (h.mem (flat_mem hz)) e.symm) (fun i hi hne y hy k => by
      have hy' : y ∈ chainAt cs i := by rw [chainAt_is hi]; exact hy
      exact no y (h.mem (flat_mem hy')) (apart i hne y hy') k) hc
  cases b with
  | true =>
    obtain ⟨rfl, rfl⟩ := h
    refine ⟨⟨?_, hh.second, hh.passed, hh.count, hh.work, hh.free, hh.lt⟩, arr, fun B' cs' e => ?_⟩
    · show _ = some (Value.slice (some ⟨T.B, 0, none⟩) (T.c.set j ns).length (T.c.set j ns).length)
      rw [List.length_set, hh.first]
    · have e : T.two = some (B', cs') := e
      have dis : ∀ y ∈ cs'.flatten, y ∉ chainAt T.c j := fun y hy hy2 => by
        have nn := nd
        unfold nodes at nn
        rw [e, List.map_append] at nn
        exact (List.nodup_append.1 nn).2.2 y.b (List.mem_map.2 ⟨y, flat_mem hy2, rfl⟩) y.b (List.mem_map.2 ⟨y, hy, rfl⟩) rfl
      refine (l.a2 B' cs' e).turn t (fun i hd => ?_) fun y hy i => no y (mem2 e hy) (dis y hy) i
      rcases hD _ hd with k | ⟨z, hz, k⟩
      · injection k with k _ _; exact ok.two_B e k
      · exact ok.node_two e (mem1 (flat_mem hz)) k.symm
  | false =>
    have e : T.two = some (B, cs) := h
    have dis : ∀ y ∈ T.c.flatten, y ∉ chainAt cs j := fun y hy hy2 => by
      have nn := nd
      unfold nodes at nn
      rw [e, List.map_append] at nn
      exact (List.nodup_append.1 nn).2.2 y.b (List.mem_map.2 ⟨y, hy, rfl⟩) y.b (List.mem_map.2 ⟨y, flat_mem hy2, rfl⟩) rfl
    refine ⟨⟨hh.first, ?_, hh.passed, hh.count, hh.work, hh.free, hh.lt⟩, l.a1.turn t (fun i hd => ?_) fun y hy i => no y (mem1 hy) (dis y hy) i, fun B' cs' e' => ?_⟩
    · rw [hh.second, e]
      show some (Value.slice (some ⟨B, 0, none⟩) cs.length cs.length) = some (Value.slice (some ⟨B, 0, none⟩) (cs.set j ns).length (cs.set j ns).length)
      rw [List.length_set]
    · rcases hD _ hd with k | ⟨z, hz, k⟩
      · injection k with k _ _; exact ok.two_B e k.symm
      · exact ok.node_B (mem2 e (flat_mem hz)) k.symm
    · injection e' with e'
      injection e' with e1 e3
      subst e1; subst e3
      exact arr
end
end Go.Proofs.Ytedpanfdkdbblaa
