/- Package skip: all names in memory; paths. -/
import Derived.Test.YtopnbfhkfagemaaDoorSkHt
import Derived.Laws.Rows
namespace Go.Proofs.YtopnbfhkfagemaaDoor
open Go.RowKit
set_option linter.unusedVariables false
/-- The names ns in memory, with their levels; the first links in the block F. -/
structure Body (w : World) (F : Nat) (ns : List Nd) : Prop where
  nds : ∀ x ∈ ns, NdAt w x
  lev : ∀ l, l < 20 → Lev w l F ns
  freeF : ∀ i, w.frozen? ⟨F, i, none⟩ = false
  ltF : F < w.heap.size
  high : ∀ x ∈ ns, 1 ≤ x.h ∧ x.h ≤ 20
theorem Body.same {w w' : World} {F : Nat} {ns : List Nd} (h : Body w F ns) (kF : w'.heap[F]? = w.heap[F]?) (k : ∀ x ∈ ns, w'.heap[x.b]? = w.heap[x.b]? ∧ w'.heap[x.L]? = w.heap[x.L]?) (hs : w.heap.size ≤ w'.heap.size) : Body w' F ns := by
  have cl : ∀ (b : Nat) (e : w'.heap[b]? = w.heap[b]?) i, w'.cell? ⟨b, i, none⟩ = w.cell? ⟨b, i, none⟩ := fun b e i => World.cell?_of_block e
  have fl : ∀ (b : Nat) (e : w'.heap[b]? = w.heap[b]?) i, w'.frozen? ⟨b, i, none⟩ = w.frozen? ⟨b, i, none⟩ := fun b e i => World.frozen?_of_block e
  refine ⟨fun x hx => ?_, fun l hl => ⟨⟨?_, ?_⟩, ?_⟩, fun i => (fl F kF i).trans (h.freeF i), Nat.lt_of_lt_of_le h.ltF hs, h.high⟩
  · have n := h.nds x hx
    obtain ⟨k1, k2⟩ := k x hx
    refine ⟨(cl _ k1 _).trans n.name, (cl _ k1 _).trans n.score, (cl _ k1 _).trans n.links, fun i => (fl _ k1 i).trans (n.free i), Nat.lt_of_lt_of_le n.lt hs, fun i => (fl _ k2 i).trans (n.freeL i), Nat.lt_of_lt_of_le n.ltL hs⟩
  · exact (cl F kF _).trans (h.lev l hl).1.to
  · exact (cl F kF _).trans (h.lev l hl).1.width
  · have hr := (h.lev l hl).2
    have kk : ∀ x ∈ ns, w'.heap[x.L]? = w.heap[x.L]? := fun x hx => (k x hx).2
    revert hr kk
    generalize ns = ms
    intro hr kk
    induction ms with
    | nil => trivial
    | cons x r ih => exact ⟨fun c => ⟨(cl _ (kk x List.mem_cons_self) _).trans (hr.1 c).to, (cl _ (kk x List.mem_cons_self) _).trans (hr.1 c).width⟩, ih hr.2 fun y hy => kk y (List.mem_cons_of_mem _ hy)⟩
theorem Body.below {w w' : World} {F : Nat} {ns : List Nd} (h : Body w F ns) (hb : Below w.heap.size w w') : Body w' F ns :=
  h.same (hb.block _ h.ltF) (fun x hx => ⟨hb.block _ (h.nds x hx).lt, hb.block _ (h.nds x hx).ltL⟩) hb.size
theorem Hind.room {F l B c : Nat} {P : List Nd} (h : Hind F l P B c) (hl : l < 20) : l < c := by
  rcases h with ⟨-, -, rfl⟩ | ⟨P', x, -, -, rfl, k⟩
  · exact hl
  · exact k
theorem Hind.lower {F l l' B c : Nat} {P : List Nd} (h : Hind F l P B c) (hl : l' ≤ l) : Hind F l' P B c := by
  rcases h with h | ⟨P', x, e, e2, e3, k⟩
  · exact .inl h
  · exact .inr ⟨P', x, e, e2, e3, by omega⟩
/-- A path's step on a level: the link of the last of pre that is on it. -/
def PathAt (F : Nat) (pre : List Nd) (l : Nat) (cs : Array Value) : Prop := ∃ P A B c, pre = P ++ A ∧ (∀ y ∈ A, y.h ≤ l) ∧ Hind F l P B c ∧ cs[l * 2]? = some (.pointer (some ⟨B, l * 2, none⟩)) ∧ cs[l * 2 + 1]? = some (.int .i64 (P.length : Int))
structure Path (F : Nat) (pre : List Nd) (lo : Nat) (cs : Array Value) : Prop where
  size : cs.size = 40
  one : ∀ v ∈ cs, v.oneCell' = true
  at_ : ∀ l, lo ≤ l → l < 20 → PathAt F pre l cs
def zeros : Array Value := ((List.replicate 20 [Value.pointer none, Value.int .i64 0]).flatten).toArray
theorem zero40 (W : World) : (zeroValue 79).run Tryd.prog W = .ok (.agg zeros) W := by kernel_rfl
theorem info40 : (Tryd.prog.info? 79).map (·.size) = some 40 := by kernel_rfl
theorem zeros_size : zeros.size = 40 := by decide +kernel
theorem zeros_one : ∀ v ∈ zeros, v.oneCell' = true := by
  intro v hv
  have hv : v ∈ (List.replicate 20 [Value.pointer none, Value.int .i64 0]).flatten := by simpa [zeros] using hv
  obtain ⟨l, hl, hv⟩ := List.mem_flatten.1 hv
  rw [List.eq_of_mem_replicate hl] at hv
  rcases List.mem_cons.1 hv with rfl | hv
  · rfl
  · rw [List.mem_singleton.1 hv]; rfl
/-- A block that is an array of steps. -/
def PRow (w : World) (g : Nat) (cs : Array Value) : Prop := w.heap[g]? = some (.cells cs 79 (0, 0))
theorem PRow.below {w w' : World} {g B : Nat} {cs : Array Value} (h : PRow w g cs) (hb : Below B w w') (hg : g < B) : PRow w' g cs := (hb.block g hg).trans h
theorem PRow.lt {w : World} {g : Nat} {cs : Array Value} (h : PRow w g cs) : g < w.heap.size := (Array.getElem?_eq_some_iff.1 h).1
theorem PRow.cell {w : World} {g : Nat} {cs : Array Value} (h : PRow w g cs) (i : Nat) : w.cell? ⟨g, i, none⟩ = cs[i]? := cell_of_row w g i cs _ _ h
theorem PRow.free {w : World} {g : Nat} {cs : Array Value} (h : PRow w g cs) (i : Nat) : w.frozen? ⟨g, i, none⟩ = false := by
  unfold PRow at h
  simp [World.frozen?, h]
theorem PRow.put {w : World} {g : Nat} {cs : Array Value} (h : PRow w g cs) (i : Nat) (v : Value) : PRow (w.setCell ⟨g, i, none⟩ v) g (cs.setIfInBounds i v) := by
  unfold PRow at h ⊢
  simp [World.setCell, Array.getElem?_modify, h]
theorem PRow.far {w : World} {g : Nat} {cs : Array Value} (h : PRow w g cs) {p : Addr} (hp : g ≠ p.block) (u : Value) : PRow (w.setCell p u) g cs := (Below.heap_setCell w p u g hp).trans h
theorem Path.put {F : Nat} {pre : List Nd} {l : Nat} {cs : Array Value} (h : Path F pre (l + 1) cs) (hl : l < 20) {P A : List Nd} {B c : Nat} (e : pre = P ++ A) (hA : ∀ y ∈ A, y.h ≤ l) (hb : Hind F l P B c) :
    Path F pre l ((cs.setIfInBounds (l * 2) (.pointer (some ⟨B, l * 2, none⟩))).setIfInBounds (l * 2 + 1) (.int .i64 (P.length : Int))) := by
  have hz := h.size
  refine ⟨by simp [hz], fun v hv => ?_, fun k hk k2 => ?_⟩
  · rcases Array.mem_or_eq_of_mem_setIfInBounds hv with hv | rfl
    · rcases Array.mem_or_eq_of_mem_setIfInBounds hv with hv | rfl
      · exact h.one v hv
      · rfl
    · rfl
  · by_cases e2 : k = l
    · subst e2
      refine ⟨P, A, B, c, e, hA, hb, ?_, ?_⟩
      · rw [Array.getElem?_setIfInBounds_ne (by omega), Array.getElem?_setIfInBounds_self_of_lt (by omega)]
      · rw [Array.getElem?_setIfInBounds_self_of_lt (by simp; omega)]
    · obtain ⟨P', A', B', c', h1, h2, h3, h4, h5⟩ := h.at_ k (by omega) k2
      refine ⟨P', A', B', c', h1, h2, h3, ?_, ?_⟩
      · rw [Array.getElem?_setIfInBounds_ne (by omega), Array.getElem?_setIfInBounds_ne (by omega), h4]
      · rw [Array.getElem?_setIfInBounds_ne (by omega), Array.getElem?_setIfInBounds_ne (by omega), h5]
/-- On level 0 nobody is left out. -/
theorem Path.low {F : Nat} {pre : List Nd} {cs : Array Value} (h : Path F pre 0 cs) (hh : ∀ x ∈ pre, 1 ≤ x.h) : ∃ B c, Hind F 0 pre B c ∧ cs[0]? = some (.pointer (some ⟨B, 0, none⟩)) ∧ cs[1]? = some (.int .i64 (pre.length : Int)) := by
  obtain ⟨P, A, B, c, h1, h2, h3, h4, h5⟩ := h.at_ 0 (Nat.le_refl _) (by decide)
  have e : A = [] := by
    cases A with
    | nil => rfl
    | cons y r =>
      have := h2 y List.mem_cons_self
      have := hh y (by rw [h1]; simp)
      omega
  subst e
  rw [List.append_nil] at h1
  subst h1
  exact ⟨B, c, h3, h4, h5⟩
theorem in_front {α : Type} {A post A' C : List α} {y : α} (e : A ++ post = A' ++ y :: C) (h : A'.length < A.length) : ∃ t, A = A' ++ y :: t := by
  rcases List.append_eq_append_iff.1 e with ⟨t, h1, h2⟩ | ⟨t, h1, h2⟩
  · rw [h1] at h; simp at h; omega
  · cases t with
    | nil => rw [h1] at h; simp at h
    | cons z r => rw [List.cons_append] at h2; injection h2 with h2 h3; exact ⟨r, by rw [h1, h2]⟩
theorem out_front {α : Type} {A post A' C : List α} {y : α} (e : A ++ post = A' ++ y :: C) (h : ¬ A'.length < A.length) : ∃ t, A' = A ++ t := by
  rcases List.append_eq_append_iff.1 e with ⟨t, h1, h2⟩ | ⟨t, h1, h2⟩
  · exact ⟨t, h1⟩
  · rw [h1] at h
    have : t = [] := by
      cases t with
      | nil => rfl
      | cons z r => simp at h
    exact ⟨[], by rw [h1, this]; simp⟩
end Go.Proofs.YtopnbfhkfagemaaDoor
