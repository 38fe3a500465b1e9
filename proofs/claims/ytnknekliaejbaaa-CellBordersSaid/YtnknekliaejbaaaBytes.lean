/- A slice of bytes that reads as a list, nil let in. -/
import Derived.Test.YtnknekliaejbaaaRows
import Derived.Test.YtnknekliaejbaaaAddr
import Derived.WalkKit
import Derived.WalkSpells
import Derived.WalkLawsBesides
import Derived.Lib.Hide
import Derived.Laws.AppendOwnNone
import Derived.Laws.BytesArg
import Derived.OwnWalk
import Derived.Maps.AppendAt
namespace Go.Proofs.Ytnknekliaejbaaa
open Go.RowKit

/-- The slice that starts at A reads as the bytes l, and lies below block B. -/
def Bs (w : World) (B : Nat) (A : Option Addr) (l : List UInt8) : Prop :=
  ∀ i (h : i < l.length), ∃ p : Addr, A = some p ∧ p.block < B ∧ w.cell? (p.add i) = some (.int .u8 (l[i].toNat : Int))
section
variable {w w' : World} {B B' : Nat} {A : Option Addr} {l : List UInt8}
theorem Bs.empty : Bs w B A [] := fun i h => absurd h (by simp)
theorem Bs.same (h : Bs w B A l) (k : ∀ p : Addr, p.block < B → w'.cell? p = w.cell? p) : Bs w' B A l := fun i hi => by
  obtain ⟨p, e, hb, hc⟩ := h i hi
  exact ⟨p, e, hb, by rw [k _ (by rw [add_block]; exact hb), hc]⟩
theorem Bs.up (h : Bs w B A l) (hB : B ≤ B') : Bs w B' A l := fun i hi => by
  obtain ⟨p, e, hb, hc⟩ := h i hi
  exact ⟨p, e, Nat.lt_of_lt_of_le hb hB, hc⟩
theorem Bs.below (h : Bs w B A l) (hb : Below B w w') : Bs w' B A l := h.same fun _ hp => hb.cell hp
theorem Bs.front (h : Bs w B A l) (k : Nat) : Bs w B A (l.take k) := fun i hi => by
  have hi' : i < l.length := by rw [List.length_take] at hi; omega
  obtain ⟨p, e, hb, hc⟩ := h i hi'
  exact ⟨p, e, hb, by rw [hc]; simp⟩
end

/-- A byte as a value. -/
def bv (c : UInt8) : Value := .int .u8 (c.toNat : Int)
theorem bv_one (l : List UInt8) : ∀ u ∈ l.map bv, u.oneCell' = true := by
  intro u hu
  obtain ⟨c, _, rfl⟩ := List.mem_map.1 hu
  rfl
theorem info8 : (Try.prog.info? 5).map (fun i => (i.zero, i.size, i.bytes)) = some (some (.int .u8 0), 1, 1) := by kernel_rfl
theorem map_at {l : List UInt8} {j : Nat} {u : Value} (h : (l.map bv)[j]? = some u) : ∃ k : j < l.length, u = bv l[j] := by
  rw [List.getElem?_map] at h
  obtain ⟨c, hc, rfl⟩ := Option.map_eq_some_iff.1 h
  obtain ⟨k, rfl⟩ := List.getElem?_eq_some_iff.1 hc
  exact ⟨k, rfl⟩
/-- append of a slice of bytes, nil let in, onto a row of the call's own. -/
theorem wpList_append_bytes {w : World} {ops : Array Oper} {rest : List Oper} {o : Oper} {a : Act} {Q : Exit → Act → World → Prop} (hgd : o.guard = none) (s x : Operand)
    (ho : o.op = .call { callee := .builtin .append, args := #[s, x], argTypes := #[61, 61] })
    (base : Nat) (v : Value) (n : Nat) (xs : List Value) (hs : a.eval s = v) (hown : w.ownsRow base 5 1 v n xs)
    (B : Nat) (A : Option Addr) (c : Nat) (l : List UInt8) (hx : a.eval x = .slice A l.length c) (hA : A = none → c = 0) (hr : Bs w B A l)
    (h63 : n + l.length ≤ 4611686018427387904) (hbytes : n + l.length ≤ 140737488355328) (hbase : base ≤ w.heap.size)
    (h : ∀ v' w', w'.ownsRow base 5 1 v' (n + l.length) (xs ++ l.map bv) → w.grownBy w' v.ownBlock → (v'.ownBlock = v.ownBlock ∨ v'.ownBlock = some w.heap.size) → wpList Try.prog ops Q rest (a.put o.dst v') w') :
    wpList Try.prog ops Q (o :: rest) a w := by
  obtain ⟨i, hi, hz, h1, h2⟩ := info_parts info8
  cases A with
  | none =>
    have e : l = [] := by
      cases l with
      | nil => rfl
      | cons c r => obtain ⟨p, e, _⟩ := hr 0 (by simp); cases e
    subst e
    obtain rfl := hA rfl
    refine wpList_append_own_none hgd s x 61 ho base 5 i 1 Try.underlying61 hi v n xs hs hown hx ?_
    exact h v w (by simpa using hown) (World.grownBy.refl w _) (.inl rfl)
  | some p =>
    refine wpList_append_own_at w hgd s x 61 ho base 5 i _ 1 1 Try.underlying61 hi hz h1 h2 rfl (by decide) v n xs hs hown p l.length c (l.map bv) hx (by simp) (fun j u hu => ?_) (bv_one l) (by unfold maxLen; omega) (by omega) hbase fun v' w' g1 g2 _ g4 => h v' w' g1 g2 g4
    obtain ⟨k, rfl⟩ := map_at hu
    obtain ⟨q, e, _, hc⟩ := hr j k
    cases e
    exact hc
/-- The same, with what became of the world that was before the row's block. -/
theorem wpList_append_own_bytes {w : World} {ops : Array Oper} {rest : List Oper} {o : Oper} {a : Act} {Q : Exit → Act → World → Prop} (hgd : o.guard = none) (s x : Operand)
    (ho : o.op = .call { callee := .builtin .append, args := #[s, x], argTypes := #[61, 61] })
    (w0 : World) (v : Value) (k : List UInt8) (hs : a.eval s = v) (hown : w.ownsRow w0.heap.size 5 1 v k.length (k.map bv)) (hb : Below w0.heap.size w0 w)
    (A : Option Addr) (c : Nat) (l : List UInt8) (hx : a.eval x = .slice A l.length c) (hA : A = none → c = 0) (hr : Bs w0 w0.heap.size A l)
    (hlen : k.length + l.length ≤ 140737488355328)
    (h : ∀ v' w', w'.ownsRow w0.heap.size 5 1 v' (k ++ l).length ((k ++ l).map bv) → Below w0.heap.size w0 w' → wpList Try.prog ops Q rest (a.put o.dst v') w') :
    wpList Try.prog ops Q (o :: rest) a w := by
  refine wpList_append_bytes hgd s x ho w0.heap.size v k.length (k.map bv) hs hown w0.heap.size A c l hx hA (hr.below hb) (by omega) hlen hb.size fun v' w' h1 h2 _ => h v' w' (by simpa using h1) (hb.grown h2 hb.size fun j hj => (hown.lt j hj).1)
/-- A row of the call's own reads as its bytes. -/
theorem Bs.of_own {w : World} {base n : Nat} {v : Value} {l : List UInt8} (h : w.ownsRow base 5 1 v n (l.map bv)) : ∃ A c, v = .slice A l.length c ∧ n = l.length ∧ (A = none → c = 0) ∧ Bs w w.heap.size A l := by
  have hn : n = l.length := by have := h.1; simp at this; omega
  subst hn
  rcases h.2 with ⟨rfl, h0⟩ | ⟨g, cap, cur, rfl, hg, hb, hc, _, hs, ht⟩
  · have e : l = [] := List.eq_nil_of_length_eq_zero h0
    subst e
    exact ⟨none, 0, rfl, rfl, fun _ => rfl, Bs.empty⟩
  · refine ⟨_, cap, rfl, rfl, (fun e => nomatch e), fun i hi => ?_⟩
    have hlt : g < w.heap.size := by
      rcases Nat.lt_or_ge g w.heap.size with k | k
      · exact k
      · rw [Array.getElem?_eq_none k] at hb; cases hb
    refine ⟨_, rfl, hlt, ?_⟩
    have := h.cells (g := g) rfl i (bv l[i]) (by rw [List.getElem?_map, List.getElem?_eq_getElem hi]; rfl)
    exact this
theorem Bs.new (w : World) (C : Array Value) (t : TypeId) (fr : Nat × Nat) (l : List UInt8) (hC : C = (l.map bv).toArray) : Bs (w.alloc (.cells C t fr)) (w.heap.size + 1) (some ⟨w.heap.size, 0, none⟩) l := fun i hi => by
  subst hC
  refine ⟨_, rfl, Nat.lt_succ_self _, ?_⟩
  have e : (⟨w.heap.size, 0, none⟩ : Addr).add i = ⟨w.heap.size, i, none⟩ := by
    unfold Addr.add
    split
    · rename_i h; rw [h]
    · simp
  rw [e, World.cell?_alloc_mark]
  simp [bv, hi]
theorem Bs.later {w w' : World} {A : Option Addr} {l : List UInt8} (h : Bs w w.heap.size A l) (hb : Below w.heap.size w w') : Bs w' w'.heap.size A l := (h.below hb).up hb.size
theorem own_none (w : World) (t : TypeId) : (w.alloc (.cells #[] t)).ownsRow w.heap.size t 1 (.slice (some ⟨w.heap.size, 0, none⟩) 0 0) 0 [] :=
  ⟨rfl, .inr ⟨w.heap.size, 0, #[], rfl, Nat.le_refl _, by show (w.heap.push _)[w.heap.size]? = _; simp, Nat.le_refl _, Nat.zero_le _, rfl, rfl⟩⟩
theorem below_then {w a b : World} (h : Below w.heap.size w a) (k : Below a.heap.size a b) : Below w.heap.size w b := h.trans (k.mono h.size)
/-- A block of the call's own that is just the bytes l. -/
def Whole (w : World) (g : Nat) (l : List UInt8) : Prop := w.heap[g]? = some (.cells (l.map bv).toArray 5 (0, 0))
theorem Whole.lt {w : World} {g : Nat} {l : List UInt8} (h : Whole w g l) : g < w.heap.size := by
  rcases Nat.lt_or_ge g w.heap.size with k | k
  · exact k
  · unfold Whole at h; rw [Array.getElem?_eq_none k] at h; cases h
theorem Whole.cell {w : World} {g : Nat} {l : List UInt8} (h : Whole w g l) (i : Nat) (hi : i < l.length) : w.cell? ⟨g, i, none⟩ = some (.int .u8 (l[i].toNat : Int)) := by
  unfold Whole at h
  simp [World.cell?, h, bv, hi]
theorem Whole.free {w : World} {g : Nat} {l : List UInt8} (h : Whole w g l) (i : Nat) : w.frozen? ⟨g, i, none⟩ = false := by
  unfold Whole at h
  simp [World.frozen?, h]
theorem Whole.put {w : World} {g : Nat} {l : List UInt8} (h : Whole w g l) (i : Nat) (c : UInt8) : Whole (w.setCell ⟨g, i, none⟩ (.int .u8 (c.toNat : Int))) g (l.set i c) := by
  unfold Whole at h ⊢
  have e : ((l.map bv).toArray.setIfInBounds i (.int .u8 (c.toNat : Int))) = ((l.set i c).map bv).toArray := by
    rw [List.setIfInBounds_toArray, List.map_set]
    rfl
  simp [World.setCell, Array.getElem?_modify, h]
  rfl
theorem Whole.drew {w : World} {g : Nat} {l : List UInt8} (h : Whole w g l) : Whole w.drew g l := h
theorem Whole.below {w w' : World} {g B : Nat} {l : List UInt8} (h : Whole w g l) (hb : Below B w w') (hg : g < B) : Whole w' g l := (hb.block g hg).trans h
theorem Whole.new (w : World) (C : Array Value) (l : List UInt8) (hC : C = (l.map bv).toArray) : Whole (w.alloc (.cells C 5)) w.heap.size l := by
  subst hC
  show (w.heap.push _)[w.heap.size]? = _
  simp
theorem Whole.reads {w : World} {g : Nat} {l : List UInt8} (h : Whole w g l) : Bs w w.heap.size (some ⟨g, 0, none⟩) l := fun i hi => by
  refine ⟨_, rfl, h.lt, ?_⟩
  have e : (⟨g, 0, none⟩ : Addr).add i = ⟨g, i, none⟩ := by
    unfold Addr.add
    split
    · rename_i h; rw [h]
    · simp
  rw [e, h.cell i hi]
theorem b8_xor (x y : UInt8) : bits .xor .u8 (x.toNat : Int) (y.toNat : Int) = ((x ^^^ y).toNat : Int) := by
  rw [u8_xor _ _ (by omega) (by have := x.toNat_lt; omega) (by omega) (by have := y.toNat_lt; omega), UInt8.toNat_xor]
  simp
theorem made_bytes (n : Nat) (w : World) (hn : n ≤ 4194304) : (Instr.makeSlice 61 (.int .i64 (n : Int)) (.int .i64 (n : Int))).run Try.prog w = .ok (.slice (some ⟨w.heap.size, 0, none⟩) n n) (w.alloc (.cells ((List.replicate n (0 : UInt8)).map bv).toArray 5)) := by
  obtain ⟨i, hi, hz, h1, h2⟩ := info_parts info8
  have h := run_make (P := Try.prog) w 61 5 i _ Try.underlying61 hi hz .i64 .i64 (n : Int) (n : Int) (by omega) (Int.le_refl _) (by rw [h2]; omega) (by omega)
  have e : madeCells (Value.int .u8 0).cells (n * i.size) = ((List.replicate n (0 : UInt8)).map bv).toArray := by
    rw [h1]
    apply Array.ext
    · simp [madeCells]
    · intro j h1 h2
      simp [madeCells, bv, Value.cells, Nat.mod_one]
  have t : ((n : Int)).toNat = n := by omega
  rw [h, t, e]
/-- A block of the call's own whose first cells are the bytes l. -/
def Own (w : World) (g : Nat) (l : List UInt8) : Prop := ∃ cur : Array Value, w.heap[g]? = some (.cells cur 5 (0, 0)) ∧ ∀ i (h : i < l.length), cur[i]? = some (bv l[i])
theorem Own.lt {w : World} {g : Nat} {l : List UInt8} (h : Own w g l) : g < w.heap.size := by
  obtain ⟨cur, h, _⟩ := h
  rcases Nat.lt_or_ge g w.heap.size with k | k
  · exact k
  · rw [Array.getElem?_eq_none k] at h; cases h
theorem Own.cell {w : World} {g : Nat} {l : List UInt8} (h : Own w g l) (i : Nat) (hi : i < l.length) : w.cell? ⟨g, i, none⟩ = some (.int .u8 (l[i].toNat : Int)) := by
  obtain ⟨cur, h, hc⟩ := h
  have := hc i hi
  simp [World.cell?, h, this, bv]
theorem Own.free {w : World} {g : Nat} {l : List UInt8} (h : Own w g l) (i : Nat) : w.frozen? ⟨g, i, none⟩ = false := by
  obtain ⟨cur, h, _⟩ := h
  simp [World.frozen?, h]
theorem Own.put {w : World} {g : Nat} {l : List UInt8} (h : Own w g l) (i : Nat) (hi : i < l.length) (c : UInt8) : Own (w.setCell ⟨g, i, none⟩ (.int .u8 (c.toNat : Int))) g (l.set i c) := by
  obtain ⟨cur, h, hc⟩ := h
  refine ⟨cur.setIfInBounds i (bv c), by simp [World.setCell, Array.getElem?_modify, h, bv], fun j hj => ?_⟩
  have hj' : j < l.length := by simpa using hj
  have hi' : i < cur.size := by
    have := hc i hi
    rcases Nat.lt_or_ge i cur.size with k | k
    · exact k
    · rw [Array.getElem?_eq_none k] at this; cases this
  by_cases e : i = j
  · subst e
    simp [hi']
  · rw [Array.getElem?_setIfInBounds_ne e, hc j hj']
    simp [e]
theorem Own.drew {w : World} {g : Nat} {l : List UInt8} (h : Own w g l) : Own w.drew g l := h
theorem Own.below {w w' : World} {g B : Nat} {l : List UInt8} (h : Own w g l) (hb : Below B w w') (hg : g < B) : Own w' g l := by
  obtain ⟨cur, h, hc⟩ := h
  exact ⟨cur, (hb.block g hg).trans h, hc⟩
theorem Own.reads {w : World} {g : Nat} {l : List UInt8} (h : Own w g l) : Bs w w.heap.size (some ⟨g, 0, none⟩) l := fun i hi => by
  refine ⟨_, rfl, h.lt, ?_⟩
  have e : (⟨g, 0, none⟩ : Addr).add i = ⟨g, i, none⟩ := by
    unfold Addr.add
    split
    · rename_i h; rw [h]
    · simp
  rw [e, h.cell i hi]
theorem Own.of_row {w : World} {base n : Nat} {v : Value} {l : List UInt8} (h : w.ownsRow base 5 1 v n (l.map bv)) (hl : 1 ≤ l.length) : ∃ g c, v = .slice (some ⟨g, 0, none⟩) l.length c ∧ base ≤ g ∧ l.length ≤ c ∧ Own w g l := by
  have hn : n = l.length := by have := h.1; simp at this; omega
  subst hn
  rcases h.2 with ⟨rfl, h0⟩ | ⟨g, cap, cur, rfl, hg, hb, hc, _, hs, ht⟩
  · omega
  · refine ⟨g, cap, rfl, hg, hc, cur, hb, fun i hi => ?_⟩
    have := congrArg (fun x => x[i]?) ht
    simp [hi] at this
    rw [← this]
/-- string(b). -/
theorem convert_bs {w : World} {B : Nat} {A : Option Addr} {l : List UInt8} (c : Nat) (h : Bs w B A l) : (convert 61 9 (.slice A l.length c)).run Try.prog w = .ok (.string ⟨l.toArray⟩) w := by
  cases A with
  | none =>
    have e : l = [] := by
      cases l with
      | nil => rfl
      | cons c r => obtain ⟨p, e, _⟩ := h 0 (by simp); cases e
    subst e
    exact run_convert_bytes_nil w 61 5 Try.underlying61 Try.underlying5 _ _ _ Try.underlying9
  | some p =>
    have hl : (loadCells p l.length).run Try.prog w = .ok (l.map bv).toArray w := by
      have := run_loadCells_list (P := Try.prog) w p (l.map bv) (fun j u hu => by
        obtain ⟨k, rfl⟩ := map_at hu
        obtain ⟨q, e, _, hc⟩ := h j k
        cases e
        exact hc)
      simpa using this
    have e : l.map bv = (l.map fun c => (c.toNat : Int)).map (Value.int .u8) := by
      rw [List.map_map]; rfl
    rw [e] at hl
    rw [run_convert_bytes_string w 61 9 5 _ _ c Try.underlying61 Try.underlying5 Try.underlying9, run_bytesToString w _ _ c _ hl, foldl_push_bytes]
    have k : (l.map fun c => (c.toNat : Int)).map (fun n => UInt8.ofNat n.toNat) = l := by
      rw [List.map_map]
      conv => rhs; rw [← List.map_id l]
      exact List.map_congr_left fun c _ => by simp
    rw [k]
    simp [ByteArray.empty, ByteArray.emptyWithCapacity]
    rfl
theorem convert_n {w : World} {B : Nat} {A : Option Addr} {l : List UInt8} (c n : Nat) (hn : l.length = n) (h : Bs w B A l) : (convert 61 9 (.slice A n c)).run Try.prog w = .ok (.string ⟨l.toArray⟩) w := by
  subst hn
  exact convert_bs c h
/-- v is a slice of bytes that reads as l. -/
def IsBytes (w : World) (v : Value) (l : List UInt8) : Prop := ∃ A c, v = .slice A l.length c ∧ (A = none → c = 0) ∧ l.length ≤ c ∧ Bs w w.heap.size A l
theorem IsBytes.later {w w' : World} {v : Value} {l : List UInt8} (h : IsBytes w v l) (hb : Below w.heap.size w w') : IsBytes w' v l := by
  obtain ⟨A, c, e, hA, hc, hr⟩ := h
  exact ⟨A, c, e, hA, hc, hr.later hb⟩
theorem mod_len (t : Int) (n : Nat) (hn : n ≤ 4096) : ∃ k : Nat, k ≤ n ∧ wrap64 ((IntKind.u64.wrap t).tmod ((n : Int) + 1)) = (k : Int) := by
  have h : 0 ≤ IntKind.u64.wrap t := by rw [IntKind.wrap_u64]; omega
  rw [Int.tmod_eq_emod_of_nonneg h]
  have p := Int.emod_lt_of_pos (IntKind.u64.wrap t) (show (0 : Int) < (n : Int) + 1 by omega)
  have q := Int.emod_nonneg (IntKind.u64.wrap t) (show ((n : Int) + 1) ≠ 0 by omega)
  exact ⟨(IntKind.u64.wrap t % ((n : Int) + 1)).toNat, by omega, by unfold wrap64; omega⟩
theorem mod_lt (t : Int) (n : Nat) (hn : 0 < n) (hb : n ≤ 1048576) : ∃ k : Nat, k < n ∧ wrap64 ((IntKind.u64.wrap t).tmod (n : Int)) = (k : Int) := by
  have h : 0 ≤ IntKind.u64.wrap t := by rw [IntKind.wrap_u64]; omega
  rw [Int.tmod_eq_emod_of_nonneg h]
  have p := Int.emod_lt_of_pos (IntKind.u64.wrap t) (show (0 : Int) < (n : Int) by omega)
  have q := Int.emod_nonneg (IntKind.u64.wrap t) (show (n : Int) ≠ 0 by omega)
  exact ⟨(IntKind.u64.wrap t % (n : Int)).toNat, by omega, by unfold wrap64; omega⟩
end Go.Proofs.Ytnknekliaejbaaa
