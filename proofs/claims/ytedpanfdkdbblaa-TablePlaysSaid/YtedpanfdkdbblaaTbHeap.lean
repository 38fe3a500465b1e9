/- Chains of entries in memory, arrays of chains; what stores leave of them. -/
import Derived.Test.YtedpanfdkdbblaaTbHash
import Derived.Deep.LoopGhost
namespace Go.Proofs.Ytedpanfdkdbblaa
open Go.RowKit
set_option linter.unusedVariables false
/-- Of the old cells only those of D may have been turned. -/
structure Turn (D : Addr → Prop) (w w' : World) : Prop where
  os : w'.os = w.os
  tape : w'.tape = w.tape
  output : w'.output = w.output
  size : w.heap.size ≤ w'.heap.size
  cell : ∀ a : Addr, a.block < w.heap.size → ¬ D a → w'.cell? a = w.cell? a
  frozen : ∀ a : Addr, a.block < w.heap.size → w'.frozen? a = w.frozen? a
  block : ∀ k, k < w.heap.size → (∀ a : Addr, a.block = k → ¬ D a) → w'.heap[k]? = w.heap[k]?
section
variable {D E : Addr → Prop} {w w' w'' : World}
theorem Turn.refl (D : Addr → Prop) (w : World) : Turn D w w := ⟨rfl, rfl, rfl, Nat.le_refl _, fun _ _ _ => rfl, fun _ _ => rfl, fun _ _ _ => rfl⟩
theorem Turn.trans (h : Turn D w w') (k : Turn E w' w'') (s : ∀ a, E a → D a ∨ w.heap.size ≤ a.block) : Turn D w w'' :=
  ⟨k.os.trans h.os, k.tape.trans h.tape, k.output.trans h.output, Nat.le_trans h.size k.size,
   fun a ha hd => by rw [k.cell a (Nat.lt_of_lt_of_le ha h.size) (fun e => by rcases s a e with x | x; exact hd x; omega), h.cell a ha hd],
   fun a ha => by rw [k.frozen a (Nat.lt_of_lt_of_le ha h.size), h.frozen a ha],
   fun n hn hd => by rw [k.block n (Nat.lt_of_lt_of_le hn h.size) (fun a ha e => by rcases s a e with x | x; exact hd a ha x; omega), h.block n hn hd]⟩
theorem Turn.of_below (h : Below w.heap.size w w') : Turn D w w' :=
  ⟨h.os, h.tape, h.output, h.size, fun a ha _ => World.cell?_of_block (h.block _ ha), fun a ha => World.frozen?_of_block (h.block _ ha), fun k hk _ => h.block k hk⟩
theorem Turn.set (w : World) {a : Addr} (h : D a) (v : Value) : Turn D w (w.setCell a v) :=
  ⟨rfl, rfl, rfl, by rw [World.size_setCell]; exact Nat.le_refl _, fun b _ hd => World.cell?_setCell_other _ _ _ _ (fun e => hd (by rw [← e]; exact h)), fun b _ => World.frozen?_setCell _ _ _ _, fun k _ hd => Below.heap_setCell w a v k fun e => hd a e.symm h⟩
theorem Turn.store (h : Turn D w w') {a : Addr} (ha : D a ∨ w.heap.size ≤ a.block) (v : Value) : Turn D w (w'.setCell a v) :=
  h.trans (E := fun b => b = a) (Turn.set (D := fun b => b = a) w' rfl v) fun b e => by subst e; exact ha
theorem Turn.alloc (h : Turn D w w') (o : Obj) : Turn D w (w'.alloc o) := h.trans (E := fun _ => False) (Turn.of_below ((Below.refl _ w').alloc (Nat.le_refl _) o)) fun _ e => e.elim
theorem Turn.wide (h : Turn D w w') (s : ∀ a, D a → E a) : Turn E w w' := ⟨h.os, h.tape, h.output, h.size, fun a ha hd => h.cell a ha fun x => hd (s a x), h.frozen, fun k hk hd => h.block k hk fun a e x => hd a e (s a x)⟩
theorem Turn.only {F : Nat → Prop} (h : Turn D w w') (s : ∀ a, D a → F a.block) : Only F w w' := ⟨h.os, h.tape, h.output, h.size, fun k hk hf => h.block k hk fun a e x => hf (e ▸ s a x)⟩
theorem Turn.below (h : Turn (fun _ => False) w w') : Below w.heap.size w w' := ⟨h.os, h.tape, h.output, h.size, fun k hk => h.block k hk fun _ _ e => e⟩
end
/-- An entry: its block, its name, its number. -/
structure Nd where
  b : Nat
  s : List UInt8
  n : Int
/-- The pointer to the first of a chain's entries. -/
def hd : List Nd → Value
  | [] => .pointer none
  | x :: _ => .pointer (some ⟨x.b, 0, none⟩)
/-- A chain's entries lie in memory. -/
structure NdAt (w : World) (x : Nd) (v : Value) : Prop where
  name : w.cell? ⟨x.b, 0, none⟩ = some (.string ⟨x.s.toArray⟩)
  num : w.cell? ⟨x.b, 1, none⟩ = some (.int .i64 x.n)
  next : w.cell? ⟨x.b, 2, none⟩ = some v
  free : ∀ i, w.frozen? ⟨x.b, i, none⟩ = false
  lt : x.b < w.heap.size
def Seg (w : World) : List Nd → Prop
  | [] => True
  | x :: r => NdAt w x (hd r) ∧ Seg w r
theorem NdAt.turn {D : Addr → Prop} {w w' : World} {x : Nd} {v : Value} (h : NdAt w x v) (t : Turn D w w') (hd : ∀ i, ¬ D ⟨x.b, i, none⟩) : NdAt w' x v :=
  ⟨by rw [t.cell _ h.lt (hd 0), h.name], by rw [t.cell _ h.lt (hd 1), h.num], by rw [t.cell _ h.lt (hd 2), h.next], fun i => by rw [t.frozen _ h.lt, h.free], Nat.lt_of_lt_of_le h.lt t.size⟩
theorem Seg.turn {D : Addr → Prop} {w w' : World} : ∀ {ns : List Nd}, Seg w ns → Turn D w w' → (∀ x ∈ ns, ∀ i, ¬ D ⟨x.b, i, none⟩) → Seg w' ns
  | [], _, _, _ => trivial
  | x :: r, h, t, hd => ⟨h.1.turn t (hd x List.mem_cons_self), Seg.turn h.2 t fun y hy => hd y (List.mem_cons_of_mem _ hy)⟩
theorem Seg.lt {w : World} : ∀ {ns : List Nd}, Seg w ns → ∀ x ∈ ns, x.b < w.heap.size
  | [], _, _, h => by cases h
  | y :: r, h, x, hx => by
    rcases List.mem_cons.1 hx with rfl | e
    · exact h.1.lt
    · exact Seg.lt h.2 x e
theorem Seg.back {w : World} : ∀ {pre ns : List Nd}, Seg w (pre ++ ns) → Seg w ns
  | [], _, h => h
  | _ :: _, _, h => Seg.back h.2
/-- Where the pointer to the entry behind those of pre lies, in a chain that begins in the cell a. -/
def linkAt (a : Addr) : List Nd → Addr
  | [] => a
  | x :: r => linkAt ⟨x.b, 2, none⟩ r
theorem linkAt_snoc : ∀ (a : Addr) (pre : List Nd) (x : Nd), linkAt a (pre ++ [x]) = ⟨x.b, 2, none⟩
  | _, [], _ => rfl
  | _, y :: r, x => linkAt_snoc ⟨y.b, 2, none⟩ r x
theorem linkAt_is : ∀ (a : Addr) (pre : List Nd), linkAt a pre = a ∨ ∃ y ∈ pre, linkAt a pre = ⟨y.b, 2, none⟩
  | a, [] => .inl rfl
  | a, y :: r => by
    rcases linkAt_is ⟨y.b, 2, none⟩ r with e | ⟨z, hz, e⟩
    · exact .inr ⟨y, List.mem_cons_self, e⟩
    · exact .inr ⟨z, List.mem_cons_of_mem _ hz, e⟩
/-- A chain that begins in the cell a. -/
structure Chain (w : World) (a : Addr) (ns : List Nd) : Prop where
  at_ : w.cell? a = some (hd ns)
  seg : Seg w ns
  free : w.frozen? a = false
  lt : a.block < w.heap.size
theorem Chain.turn {D : Addr → Prop} {w w' : World} {a : Addr} {ns : List Nd} (h : Chain w a ns) (t : Turn D w w') (ha : ¬ D a) (hd : ∀ x ∈ ns, ∀ i, ¬ D ⟨x.b, i, none⟩) : Chain w' a ns :=
  ⟨by rw [t.cell _ h.lt ha, h.at_], h.seg.turn t hd, by rw [t.frozen _ h.lt, h.free], Nat.lt_of_lt_of_le h.lt t.size⟩
theorem Chain.link {w : World} : ∀ {a : Addr} {pre ns : List Nd}, Chain w a (pre ++ ns) → Chain w (linkAt a pre) ns
  | _, [], _, h => h
  | _, x :: r, ns, h => Chain.link (a := ⟨x.b, 2, none⟩) (pre := r) ⟨h.seg.1.next, h.seg.2, h.seg.1.free 2, h.seg.1.lt⟩
/-- The chain with another rest behind pre. -/
theorem Chain.turned {D : Addr → Prop} {w w' : World} : ∀ {a : Addr} {pre ns ms : List Nd}, Chain w a (pre ++ ns) → Turn D w w' → (∀ c, D c → c = linkAt a pre ∨ ∀ y ∈ pre, c.block ≠ y.b) → (pre ≠ [] → ¬ D a) → (∀ y ∈ pre, y.b ≠ a.block) → (pre.map Nd.b).Nodup → Chain w' (linkAt a pre) ms → Chain w' a (pre ++ ms)
  | _, [], _, _, _, _, _, _, _, _, k => k
  | a, x :: r, ns, ms, h, t, hD, ha, hb, hn, k => by
    have hn' : (∀ y ∈ r, ¬ y.b = x.b) ∧ (r.map Nd.b).Nodup := by simpa using hn
    have fin : ∀ c, D c → c.block = x.b → c = ⟨x.b, 2, none⟩ ∧ r = [] := fun c hc e => by
      rcases hD c hc with y | y
      · rcases linkAt_is ⟨x.b, 2, none⟩ r with z | ⟨z, hz, z'⟩
        · refine ⟨y.trans z, ?_⟩
          cases r with
          | nil => rfl
          | cons u v =>
            exfalso
            rcases linkAt_is ⟨u.b, 2, none⟩ v with q | ⟨q, hq, q'⟩
            · have : linkAt ⟨x.b, 2, none⟩ (u :: v) = ⟨u.b, 2, none⟩ := q
              rw [this] at z
              injection z with z1 _ _
              exact hn'.1 u List.mem_cons_self z1
            · have : linkAt ⟨x.b, 2, none⟩ (u :: v) = ⟨q.b, 2, none⟩ := q'
              rw [this] at z
              injection z with z1 _ _
              exact hn'.1 q (List.mem_cons_of_mem _ hq) z1
        · exfalso
          have e2 : c = ⟨z.b, 2, none⟩ := y.trans z'
          rw [e2] at e
          exact hn'.1 z hz e
      · exact absurd e (y x List.mem_cons_self)
    have hx : ∀ i, i ≠ 2 → ¬ D ⟨x.b, i, none⟩ := fun i hi hc => by
      have := (fin _ hc rfl).1
      injection this with _ q _
      exact hi q
    have rest : Chain w' ⟨x.b, 2, none⟩ (r ++ ms) := by
      refine Chain.turned (a := ⟨x.b, 2, none⟩) (pre := r) (ns := ns) ⟨h.seg.1.next, h.seg.2, h.seg.1.free 2, h.seg.1.lt⟩ t (fun c hc => ?_) (fun hr hc => hr (fin _ hc rfl).2) (fun y hy e => hn'.1 y hy e) hn'.2 k
      rcases hD c hc with y | y
      · exact .inl y
      · exact .inr fun z hz => y z (List.mem_cons_of_mem _ hz)
    refine ⟨by rw [t.cell _ h.lt (ha (by simp)), h.at_]; rfl, ⟨⟨by rw [t.cell _ h.seg.1.lt (hx 0 (by decide)), h.seg.1.name], by rw [t.cell _ h.seg.1.lt (hx 1 (by decide)), h.seg.1.num], rest.at_, fun i => by rw [t.frozen _ h.seg.1.lt, h.seg.1.free], Nat.lt_of_lt_of_le h.seg.1.lt t.size⟩, rest.seg⟩, by rw [t.frozen _ h.lt, h.free], Nat.lt_of_lt_of_le h.lt t.size⟩
/-- An array of chains. -/
structure Arr (w : World) (B : Nat) (cs : List (List Nd)) : Prop where
  lt : B < w.heap.size
  free : ∀ i, w.frozen? ⟨B, i, none⟩ = false
  chain : ∀ i (h : i < cs.length), Chain w ⟨B, i, none⟩ cs[i]
theorem Arr.turn {D : Addr → Prop} {w w' : World} {B : Nat} {cs : List (List Nd)} (h : Arr w B cs) (t : Turn D w w') (hB : ∀ i, ¬ D ⟨B, i, none⟩) (hd : ∀ x ∈ cs.flatten, ∀ i, ¬ D ⟨x.b, i, none⟩) : Arr w' B cs :=
  ⟨Nat.lt_of_lt_of_le h.lt t.size, fun i => by rw [t.frozen _ h.lt, h.free], fun i hi => (h.chain i hi).turn t (hB i) fun x hx => hd x (List.mem_flatten.2 ⟨_, List.getElem_mem hi, hx⟩)⟩
/-- One chain turned. -/
theorem Arr.set {D : Addr → Prop} {w w' : World} {B j : Nat} {cs : List (List Nd)} {ns : List Nd} (h : Arr w B cs) (t : Turn D w w') (hB : ∀ i, i ≠ j → ¬ D ⟨B, i, none⟩) (hd : ∀ i (hi : i < cs.length), i ≠ j → ∀ x ∈ cs[i], ∀ k, ¬ D ⟨x.b, k, none⟩) (hj : Chain w' ⟨B, j, none⟩ ns) : Arr w' B (cs.set j ns) :=
  ⟨Nat.lt_of_lt_of_le h.lt t.size, fun i => by rw [t.frozen _ h.lt, h.free], fun i hi => by
    have hi' : i < cs.length := by simpa using hi
    rw [List.getElem_set]
    split
    · rename_i e; subst e; exact hj
    · rename_i e
      exact (h.chain i hi').turn t (hB i (Ne.symm e)) (hd i hi' (Ne.symm e))⟩
theorem flat_split {α : Type} : ∀ (cs : List (List α)) (i : Nat) (h : i < cs.length), ∃ A C, cs.flatten = A ++ cs[i] ++ C ∧ ∀ ns, (cs.set i ns).flatten = A ++ ns ++ C
  | c :: r, 0, _ => ⟨[], r.flatten, by simp, fun ns => by simp⟩
  | c :: r, i + 1, h => by
    obtain ⟨A, C, e, k⟩ := flat_split r i (by simpa using h)
    exact ⟨c ++ A, C, by simp [e], fun ns => by simp [k]⟩
theorem flat_ne {α β : Type} (f : α → β) {cs : List (List α)} (h : (cs.flatten.map f).Nodup) {i j : Nat} (hi : i < cs.length) (hj : j < cs.length) (e : i ≠ j) {x y : α} (hx : x ∈ cs[i]) (hy : y ∈ cs[j]) : f x ≠ f y := by
  unfold List.Nodup at h
  rw [List.pairwise_map, List.pairwise_flatten, List.pairwise_iff_getElem] at h
  rcases Nat.lt_or_ge i j with c | c
  · exact h.2 i j hi hj c x hx y hy
  · exact Ne.symm (h.2 j i hj hi (by omega) y hy x hx)
end Go.Proofs.Ytedpanfdkdbblaa
