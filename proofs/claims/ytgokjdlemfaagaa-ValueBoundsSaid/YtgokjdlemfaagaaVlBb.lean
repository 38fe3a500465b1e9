/- The worlds of ValueBounds' loop; append of one text as a step of a drawn region. -/
import Derived.Test.YtgokjdlemfaagaaVlBm
import Derived.Test.YtgokjdlemfaagaaVlFin
namespace Go.Proofs.Ytgokjdlemfaagaa
open Go.RowKit
set_option linter.unusedVariables false
theorem step_append_one {w : World} {ops : Array Oper} {o : Oper} {a : Act} {K : Act → World → Prop} {Q : Exit → Act → World → Prop} {E : Prop} (hgd : o.guard = none) (s x : Operand)
    (ho : o.op = .call { callee := .builtin .append, args := #[s, x], argTypes := #[24, 24] })
    (base : Nat) (v : Value) (n : Nat) (ys : List Value) (hs : a.eval s = v) (hown : w.ownsRow base 9 1 v n ys)
    (ad : Addr) (hx : a.eval x = .slice (some ad) 1 1) (u : Value) (hu : w.cell? ad = some u) (h1 : u.oneCell' = true) (hlen : n ≤ 100000) (hb : base ≤ w.heap.size)
    (h : ∀ v' w', w'.ownsRow base 9 1 v' (n + 1) (ys ++ [u]) → w.grownBy w' v.ownBlock → K (a.put o.dst v') w') :
    if Region.wanted o (yielded ops a.tmps) = true then Oper.wp Try.prog o a w K Q else E := by
  have hw : Region.wanted o (yielded ops a.tmps) = true := by simp [Region.wanted, hgd]
  rw [if_pos hw]
  obtain ⟨i, hi, hz, k1, k2⟩ := info_parts infoT
  obtain ⟨v', w', hrun, h2, h3, _, _⟩ := run_append_own_at (P := Try.prog) w base 24 o.type 9 i _ 1 16 Try.underlying24 hi hz k1 k2 rfl (by decide) v n ys hown ad 1 1 [u] rfl (fun j y hy => by
    match j with
    | 0 => simp at hy; subst hy; simpa [Addr.add] using hu
    | j + 1 => simp at hy) (by intro y hy; simp at hy; subst hy; exact h1) (by unfold maxLen; omega) (by omega) hb
  unfold Oper.wp
  simp [execOp, ho, resolve, invoke, builtin, hs, hx, hrun, Result.andThen]
  exact h v' w' h2 h3
theorem cell_two (W : World) (o : Obj) (u : Value) (t : TypeId) (b : Nat) (hb : W.heap.size + 1 = b) : ((W.alloc o).alloc (.cells #[u] t)).drew.cell? ⟨b, 0, none⟩ = some u := by
  subst hb
  have := World.cell?_alloc_new (w := W.alloc o) #[u] t 0
  rw [World.size_alloc] at this
  exact this
/-- The boxes between two rounds. -/
structure BB (w W : World) (k : Nat) (vg : Value) : Prop where
  below : Below w.heap.size w W
  room : w.heap.size + 5 ≤ W.heap.size
  t : Blk W (w.heap.size + 1) #[.int .i64 1, .string (zs (4095 + k)), .slice none 0 0, .slice none 0 0, .slice none 0 0, .slice none 0 0] 29
  lr : Blk W (w.heap.size + 1 + 1) (lcells (List.replicate (999 + k) ⟨#[]⟩)).toArray 9
  l : Blk W (w.heap.size + 1 + 1 + 1) #[.int .i64 2, .string ⟨#[]⟩, .slice (some ⟨w.heap.size + 1 + 1, 0, none⟩) (999 + k) (999 + k), .slice none 0 0, .slice none 0 0, .slice none 0 0] 29
  g : Blk W (w.heap.size + 1 + 1 + 1 + 1) #[.int .i64 2, .string ⟨#[]⟩, vg, .slice none 0 0, .slice none 0 0, .slice none 0 0] 29
theorem BB.grown {w W W' : World} {k : Nat} {vg : Value} {row : Option Nat} (h : BB w W k vg) (g : W.grownBy W' row) (hr : ∀ i, row = some i → w.heap.size + 5 ≤ i) : BB w W' k vg where
  below := h.below.grown g h.below.size fun i e => by have := hr i e; omega
  room := Nat.le_trans h.room g.size
  t := (g.block _ h.t.lt (fun e => by have := hr _ e.symm; omega)).trans h.t
  lr := (g.block _ h.lr.lt (fun e => by have := hr _ e.symm; omega)).trans h.lr
  l := (g.block _ h.l.lt (fun e => by have := hr _ e.symm; omega)).trans h.l
  g := (g.block _ h.g.lt (fun e => by have := hr _ e.symm; omega)).trans h.g
theorem BB.alloc {w W : World} {k : Nat} {vg : Value} (h : BB w W k vg) (o : Obj) : BB w (W.alloc o) k vg := h.grown (World.grownBy_alloc W o none) (fun i e => nomatch e)
theorem BB.drew {w W : World} {k : Nat} {vg : Value} (h : BB w W k vg) : BB w W.drew k vg := ⟨h.below.drew, h.room, h.t, h.lr, h.l, h.g⟩
theorem BB.put {w W : World} {k : Nat} {vg : Value} (h : BB w W k vg) (u : Value) : BB w (W.setCell ⟨w.heap.size + 1 + 1 + 1 + 1, 2, none⟩ u) k u where
  below := h.below.setCell (p := ⟨w.heap.size + 1 + 1 + 1 + 1, 2, none⟩) (by simp; omega) u
  room := Nat.le_trans h.room (KeepsWalks.setCell W _ u).size
  t := h.t.aside (by simp) u
  lr := h.lr.aside (by simp) u
  l := h.l.aside (by simp) u
  g := h.g.put u
theorem start_bb (w : World) (k : Nat) (z : Array Value) (zt : TypeId) : BB w (((((w.alloc (.cells z zt)).alloc (.cells #[.int .i64 1, .string (zs (4095 + k)), .slice none 0 0, .slice none 0 0, .slice none 0 0, .slice none 0 0] 29)).alloc (.cells (lcells (List.replicate (999 + k) ⟨#[]⟩)).toArray 9)).alloc
    (.cells #[.int .i64 2, .string ⟨#[]⟩, .slice (some ⟨w.heap.size + 1 + 1, 0, none⟩) (999 + k) (999 + k), .slice none 0 0, .slice none 0 0, .slice none 0 0] 29)).alloc (.cells #[.int .i64 2, .string ⟨#[]⟩, .slice none 0 0, .slice none 0 0, .slice none 0 0, .slice none 0 0] 29)) k (.slice none 0 0) := by
  have al : ∀ (W : World) (o : Obj), Below W.heap.size W (W.alloc o) := fun W o => (Below.refl _ _).alloc (Nat.le_refl _) o
  obtain ⟨w1, h1⟩ : ∃ w1, w.alloc (.cells z zt) = w1 := ⟨_, rfl⟩
  have s1 : w1.heap.size = w.heap.size + 1 := by rw [← h1]; simp
  have b1 : Below w.heap.size w w1 := by rw [← h1]; exact al _ _
  rw [h1]
  clear h1
  obtain ⟨w2, h2⟩ : ∃ w2, w1.alloc (.cells #[.int .i64 1, .string (zs (4095 + k)), .slice none 0 0, .slice none 0 0, .slice none 0 0, .slice none 0 0] 29) = w2 := ⟨_, rfl⟩
  have s2 : w2.heap.size = w.heap.size + 1 + 1 := by rw [← h2]; simp [s1]
  have b2 : Below w1.heap.size w1 w2 := by rw [← h2]; exact al _ _
  have k2 := Blk.new w1 #[.int .i64 1, .string (zs (4095 + k)), .slice none 0 0, .slice none 0 0, .slice none 0 0, .slice none 0 0] 29
  rw [h2, s1] at k2
  rw [h2]
  clear h2
  obtain ⟨w3, h3⟩ : ∃ w3, w2.alloc (.cells (lcells (List.replicate (999 + k) ⟨#[]⟩)).toArray 9) = w3 := ⟨_, rfl⟩
  have s3 : w3.heap.size = w.heap.size + 1 + 1 + 1 := by rw [← h3]; simp [s2]
  have b3 : Below w2.heap.size w2 w3 := by rw [← h3]; exact al _ _
  have k3 := Blk.new w2 (lcells (List.replicate (999 + k) ⟨#[]⟩)).toArray 9
  rw [h3, s2] at k3
  rw [h3]
  clear h3
  obtain ⟨w4, h4⟩ : ∃ w4, w3.alloc (.cells #[.int .i64 2, .string ⟨#[]⟩, .slice (some ⟨w.heap.size + 1 + 1, 0, none⟩) (999 + k) (999 + k), .slice none 0 0, .slice none 0 0, .slice none 0 0] 29) = w4 := ⟨_, rfl⟩
  have s4 : w4.heap.size = w.heap.size + 1 + 1 + 1 + 1 := by rw [← h4]; simp [s3]
  have b4 : Below w3.heap.size w3 w4 := by rw [← h4]; exact al _ _
  have k4 := Blk.new w3 #[.int .i64 2, .string ⟨#[]⟩, .slice (some ⟨w.heap.size + 1 + 1, 0, none⟩) (999 + k) (999 + k), .slice none 0 0, .slice none 0 0, .slice none 0 0] 29
  rw [h4, s3] at k4
  rw [h4]
  clear h4
  have k5 := Blk.new w4 #[.int .i64 2, .string ⟨#[]⟩, .slice none 0 0, .slice none 0 0, .slice none 0 0, .slice none 0 0] 29
  rw [s4] at k5
  have b5 := al w4 (.cells #[.int .i64 2, .string ⟨#[]⟩, .slice none 0 0, .slice none 0 0, .slice none 0 0, .slice none 0 0] 29)
  exact { below := below_then (below_then (below_then (below_then b1 b2) b3) b4) b5, room := by simp [s4], t := ((k2.below b3).below b4).below b5, lr := (k3.below b4).below b5, l := k4.below b5, g := k5 }
theorem vr_xl {w W : World} {k : Nat} {vg : Value} (h : BB w W k vg) : Vr W W.heap.size (.agg #[.int .i64 2, .string ⟨#[]⟩, .slice (some ⟨w.heap.size + 1 + 1, 0, none⟩) (999 + k) (999 + k), .slice none 0 0, .slice none 0 0, .slice none 0 0]) (xl k) := by
  have e : (xl k).list.length = 999 + k := by simp [xl]
  refine ⟨_, _, _, _, rfl, ?_, Sl.none, Sl.none, Sl.none⟩
  rw [e]
  refine ⟨_, _, rfl, (fun q => nomatch q), Nat.le_refl _, fun i hi => ⟨_, rfl, h.lr.lt, ?_⟩⟩
  have hb : W.heap[w.heap.size + 1 + 1]? = _ := h.lr
  have hi' : i < (lcells (List.replicate (999 + k) (⟨#[]⟩ : ByteArray))).length := hi
  rw [Addr.add_lit, Nat.zero_add]
  simp only [World.cell?, hb]
  show (lcells (List.replicate (999 + k) (⟨#[]⟩ : ByteArray))).toArray[i]? = some ((lcells (List.replicate (999 + k) (⟨#[]⟩ : ByteArray)))[i])
  rw [List.getElem?_toArray, List.getElem?_eq_getElem hi']
theorem vr_xg {W : World} {base k : Nat} {vg : Value} (h : W.ownsRow base 9 1 vg 64 (lcells (bg k 64))) : Vr W W.heap.size (.agg #[.int .i64 2, .string ⟨#[]⟩, vg, .slice none 0 0, .slice none 0 0, .slice none 0 0]) (xg k) := by
  have e : (xg k).list.length = 64 := bg_length k 64
  refine ⟨_, _, _, _, rfl, ?_, Sl.none, Sl.none, Sl.none⟩
  rw [e]
  exact row_sl1 h (by omega)
theorem vr_xe (W : World) (B : Nat) : Vr W B (.agg #[.int .i64 2, .string ⟨#[]⟩, .slice none 0 0, .slice none 0 0, .slice none 0 0, .slice none 0 0]) xe := ⟨_, _, _, _, rfl, Sl.none, Sl.none, Sl.none, Sl.none⟩
end Go.Proofs.Ytgokjdlemfaagaa
