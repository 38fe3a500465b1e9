/- Three values that a law makes side by side: a hash, scores, points: where they lie, what a round's appends do. -/
import Derived.Test.YtgokjdlemfaagaaVlTold
import Derived.Test.YtgokjdlemfaagaaVlOrdM
import Derived.Test.YtgokjdlemfaagaaRowB
import Derived.Test.YtgokjdlemfaagaaPlMay
namespace Go.Proofs.Ytgokjdlemfaagaa
open Go.RowKit
set_option linter.unusedVariables false
theorem infoF : (Try.prog.info? 33).map (fun i => (i.zero, i.size, i.bytes)) = some (some (.agg #[.string ⟨#[]⟩, .string ⟨#[]⟩]), 2, 32) := by kernel_rfl
theorem infoE : (Try.prog.info? 35).map (fun i => (i.zero, i.size, i.bytes)) = some (some (.agg #[.string ⟨#[]⟩, .int .i64 0]), 2, 24) := by kernel_rfl
theorem infoP : (Try.prog.info? 38).map (fun i => (i.zero, i.size, i.bytes)) = some (some (.agg #[.string ⟨#[]⟩, .complex .f64 0 0]), 2, 32) := by kernel_rfl
theorem pair_new (W : World) (x y : Value) (t : TypeId) : ∀ j u, [x, y][j]? = some u → (W.alloc (.cells #[x, y] t)).cell? ((⟨W.heap.size, 0, none⟩ : Addr).add j) = some u := by
  intro j u h
  match j with
  | 0 => simp at h; subst h; simp [Addr.add]
  | 1 => simp at h; subst h; simp [Addr.add]
  | j + 2 => simp at h
/-- A row's block is not another one's, if their elements' types are unlike. -/
theorem rows_apart {W : World} {base e e' : Nat} {size size' n n' : Nat} {v v' : Value} {xs ys : List Value} (h : W.ownsRow base e size v n xs) (h' : W.ownsRow base e' size' v' n' ys) (hne : e ≠ e') : v'.ownBlock = none ∨ v'.ownBlock ≠ v.ownBlock := by
  rcases h'.2 with ⟨rfl, _⟩ | ⟨g, cap, cur, rfl, _, hg, _⟩
  · exact .inl rfl
  · refine .inr fun q => ?_
    rcases h.2 with ⟨rfl, _⟩ | ⟨g', cap', cur', rfl, _, hg', _⟩
    · cases q
    · have : g = g' := by simpa [Value.ownBlock] using q
      subst this
      rw [hg] at hg'
      simp at hg'
      exact hne hg'.2.symm
def hcs (v : Value) : Array Value := #[.int .i64 3, .string ⟨#[]⟩, .slice none 0 0, v, .slice none 0 0, .slice none 0 0]
def scs (v : Value) : Array Value := #[.int .i64 4, .string ⟨#[]⟩, .slice none 0 0, .slice none 0 0, v, .slice none 0 0]
def pcs (v : Value) : Array Value := #[.int .i64 5, .string ⟨#[]⟩, .slice none 0 0, .slice none 0 0, .slice none 0 0, v]
def hl (ns : List ByteArray) : List (ByteArray × ByteArray) := ns.map fun s => (s, ⟨#[]⟩)
def sl (ns : List ByteArray) : List (ByteArray × Int) := ns.map fun s => (s, 7)
def pl (ns : List ByteArray) : List (ByteArray × Nat × Nat) := ns.map fun s => (s, 0, 0)
/-- The three boxes. -/
structure OB (w W : World) (vh vs vp : Value) : Prop where
  below : Below w.heap.size w W
  room : w.heap.size + 3 ≤ W.heap.size
  a : Blk W w.heap.size (hcs vh) 29
  b : Blk W (w.heap.size + 1) (scs vs) 29
  c : Blk W (w.heap.size + 1 + 1) (pcs vp) 29
theorem OB.grown {w W W' : World} {vh vs vp : Value} {row : Option Nat} (h : OB w W vh vs vp) (g : W.grownBy W' row) (hr : ∀ k, row = some k → w.heap.size + 3 ≤ k) : OB w W' vh vs vp where
  below := h.below.grown g h.below.size fun k e => by have := hr k e; omega
  room := Nat.le_trans h.room g.size
  a := (g.block _ h.a.lt (fun e => by have := hr _ e.symm; omega)).trans h.a
  b := (g.block _ h.b.lt (fun e => by have := hr _ e.symm; omega)).trans h.b
  c := (g.block _ h.c.lt (fun e => by have := hr _ e.symm; omega)).trans h.c
theorem OB.alloc {w W : World} {vh vs vp : Value} (h : OB w W vh vs vp) (o : Obj) : OB w (W.alloc o) vh vs vp := h.grown (World.grownBy_alloc W o none) (fun k e => nomatch e)
theorem Blk.put {W : World} {b i : Nat} {cs : Array Value} {t : TypeId} (h : Blk W b cs t) (u : Value) : Blk (W.setCell ⟨b, i, none⟩ u) b (cs.setIfInBounds i u) t := by
  unfold Blk at h ⊢
  simp [World.setCell, Array.getElem?_modify, h]
theorem OB.putH {w W : World} {vh vs vp : Value} (h : OB w W vh vs vp) (u : Value) : OB w (W.setCell ⟨w.heap.size, 3, none⟩ u) u vs vp where
  below := h.below.setCell (p := ⟨w.heap.size, 3, none⟩) (Nat.le_refl _) u
  room := Nat.le_trans h.room (KeepsWalks.setCell W _ u).size
  a := h.a.put u
  b := h.b.aside (by simp) u
  c := h.c.aside (by simp; omega) u
theorem OB.putS {w W : World} {vh vs vp : Value} (h : OB w W vh vs vp) (u : Value) : OB w (W.setCell ⟨w.heap.size + 1, 4, none⟩ u) vh u vp where
  below := h.below.setCell (p := ⟨w.heap.size + 1, 4, none⟩) (by simp) u
  room := Nat.le_trans h.room (KeepsWalks.setCell W _ u).size
  a := h.a.aside (by simp) u
  b := h.b.put u
  c := h.c.aside (by simp) u
theorem OB.putP {w W : World} {vh vs vp : Value} (h : OB w W vh vs vp) (u : Value) : OB w (W.setCell ⟨w.heap.size + 1 + 1, 5, none⟩ u) vh vs u where
  below := h.below.setCell (p := ⟨w.heap.size + 1 + 1, 5, none⟩) (by simp; omega) u
  room := Nat.le_trans h.room (KeepsWalks.setCell W _ u).size
  a := h.a.aside (by simp; omega) u
  b := h.b.aside (by simp) u
  c := h.c.put u
/-- The cells that a round's walk wants. -/
theorem OB.cells {w W : World} {vh vs vp : Value} (h : OB w W vh vs vp) : W.cell? ⟨w.heap.size, 3, none⟩ = some vh ∧ W.cell? ⟨w.heap.size + 1, 4, none⟩ = some vs ∧ W.cell? ⟨w.heap.size + 1 + 1, 5, none⟩ = some vp ∧
    W.frozen? ⟨w.heap.size, 3, none⟩ = false ∧ W.frozen? ⟨w.heap.size + 1, 4, none⟩ = false ∧ W.frozen? ⟨w.heap.size + 1 + 1, 5, none⟩ = false :=
  ⟨(Blk.six h.a).2.2.2.1, (Blk.six h.b).2.2.2.2.1, (Blk.six h.c).2.2.2.2.2, h.a.ice 3, h.b.ice 4, h.c.ice 5⟩
/-- The three values' rows. -/
structure OR (w W : World) (vh vs vp : Value) (lh lz lp : List ByteArray) : Prop where
  h : W.ownsRow (w.heap.size + 3) 33 2 vh lh.length (fcells (hl lh))
  s : W.ownsRow (w.heap.size + 3) 35 2 vs lz.length (scells (sl lz))
  p : W.ownsRow (w.heap.size + 3) 38 2 vp lp.length (pcells (pl lp))
theorem row_later {W W' : World} {base e size n : Nat} {v : Value} {xs : List Value} (h : W.ownsRow base e size v n xs) (b : Below W.heap.size W W') : W'.ownsRow base e size v n xs :=
  World.ownsRow.kept h (grown_of b) (by
    rcases h.2 with ⟨rfl, _⟩ | ⟨g, cap, cur, rfl, _⟩
    · exact .inl rfl
    · exact .inr (fun e => by cases e))
theorem row_aside {W : World} {base e size n : Nat} {v : Value} {xs : List Value} (h : W.ownsRow base e size v n xs) {p : Addr} (hp : p.block < base) (u : Value) : (W.setCell p u).ownsRow base e size v n xs := ownsRow_setCell_below h hp u
theorem OR.alloc {w W : World} {vh vs vp : Value} {lh lz lp : List ByteArray} (r : OR w W vh vs vp lh lz lp) (o : Obj) : OR w (W.alloc o) vh vs vp lh lz lp := ⟨World.ownsRow.alloc r.h o, World.ownsRow.alloc r.s o, World.ownsRow.alloc r.p o⟩
theorem OR.putH {w W W' : World} {vh vs vp v : Value} {lh lz lp : List ByteArray} {x : ByteArray} (r : OR w W vh vs vp lh lz lp) (own : W'.ownsRow (w.heap.size + 3) 33 2 v (lh.length + 1) (fcells (hl lh) ++ [.string x, .string ⟨#[]⟩])) (g : W.grownBy W' vh.ownBlock) :
    OR w (W'.setCell ⟨w.heap.size, 3, none⟩ v) v vs vp (lh ++ [x]) lz lp where
  h := by
    have e : fcells (hl (lh ++ [x])) = fcells (hl lh) ++ [.string x, .string ⟨#[]⟩] := by unfold fcells hl; rw [List.map_append, cells2_append]; rfl
    rw [e, List.length_append]
    exact row_aside own (by show w.heap.size < _; omega) v
  s := row_aside (World.ownsRow.kept r.s g (rows_apart r.h r.s (by decide))) (by show w.heap.size < _; omega) v
  p := row_aside (World.ownsRow.kept r.p g (rows_apart r.h r.p (by decide))) (by show w.heap.size < _; omega) v
theorem OR.putS {w W W' : World} {vh vs vp v : Value} {lh lz lp : List ByteArray} {x : ByteArray} (r : OR w W vh vs vp lh lz lp) (own : W'.ownsRow (w.heap.size + 3) 35 2 v (lz.length + 1) (scells (sl lz) ++ [.string x, .int .i64 7])) (g : W.grownBy W' vs.ownBlock) :
    OR w (W'.setCell ⟨w.heap.size + 1, 4, none⟩ v) vh v vp lh (lz ++ [x]) lp where
  s := by
    have e : scells (sl (lz ++ [x])) = scells (sl lz) ++ [.string x, .int .i64 7] := by unfold scells sl; rw [List.map_append, cells2_append]; rfl
    rw [e, List.length_append]
    exact row_aside own (by show w.heap.size + 1 < _; omega) v
  h := row_aside (World.ownsRow.kept r.h g (rows_apart r.s r.h (by decide))) (by show w.heap.size + 1 < _; omega) v
  p := row_aside (World.ownsRow.kept r.p g (rows_apart r.s r.p (by decide))) (by show w.heap.size + 1 < _; omega) v
theorem OR.putP {w W W' : World} {vh vs vp v : Value} {lh lz lp : List ByteArray} {x : ByteArray} (r : OR w W vh vs vp lh lz lp) (own : W'.ownsRow (w.heap.size + 3) 38 2 v (lp.length + 1) (pcells (pl lp) ++ [.string x, .complex .f64 0 0])) (g : W.grownBy W' vp.ownBlock) :
    OR w (W'.setCell ⟨w.heap.size + 1 + 1, 5, none⟩ v) vh vs v lh lz (lp ++ [x]) where
  p := by
    have e : pcells (pl (lp ++ [x])) = pcells (pl lp) ++ [.string x, .complex .f64 0 0] := by unfold pcells pl; rw [List.map_append, cells2_append]; rfl
    rw [e, List.length_append]
    exact row_aside own (by show w.heap.size + 1 + 1 < _; omega) v
  h := row_aside (World.ownsRow.kept r.h g (rows_apart r.p r.h (by decide))) (by show w.heap.size + 1 + 1 < _; omega) v
  s := row_aside (World.ownsRow.kept r.s g (rows_apart r.p r.s (by decide))) (by show w.heap.size + 1 + 1 < _; omega) v
theorem row_base {W : World} {base e size n : Nat} {v : Value} {xs : List Value} (h : W.ownsRow base e size v n xs) : ∀ k, v.ownBlock = some k → base ≤ k := fun k e => (World.ownsRow.lt h k e).1
end Go.Proofs.Ytgokjdlemfaagaa
