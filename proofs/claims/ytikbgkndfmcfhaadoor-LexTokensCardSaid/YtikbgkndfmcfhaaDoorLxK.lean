/- Tokens in memory: a block of four cells; rows of them. -/
import Derived.Test.YtikbgkndfmcfhaaDoorLxR
import Derived.Laws.ResultCell
import Derived.Laws.Rows
import Derived.Laws.Tables
import Derived.Maps.AppendAt
import Derived.Laws.AppendOwnNone
namespace Go.Proofs.YtikbgkndfmcfhaaDoor
open Go.RowKit
set_option linter.unusedVariables false
theorem ba_eta (s : ByteArray) : (⟨s.data.toList.toArray⟩ : ByteArray) = s := by simp
/-- A token's cells. -/
def tcs (t : LxM.T) : Array Value := #[.int .i64 t.kind, .string ⟨t.text.toArray⟩, .int .i64 t.n, .int .i64 (t.at_ : Int)]
def tval (t : LxM.T) : Value := .agg (tcs t)
theorem infoT : (Tryd.prog.info? 31).map (fun i => (i.zero, i.size, i.bytes)) = some (some (.agg #[.int .i64 0, .string ⟨#[]⟩, .int .i64 0, .int .i64 0]), 4, 40) := by kernel_rfl
theorem sizeT : (Tryd.prog.info? 31).map (·.size) = some 4 := by kernel_rfl
theorem one4 (a : Int) (b : ByteArray) (c d : Int) : (#[Value.int .i64 a, .string b, .int .i64 c, .int .i64 d] : Array Value).all (·.oneCell') = true := by simp [Value.oneCell']
theorem setRow_heap' (w : World) (g : Nat) (cs : Array Value) (t : TypeId) (old : Array Value) (h : w.heap[g]? = some (.cells old t (0, 0))) : (w.setRow g cs).heap[g]? = some (.cells cs t (0, 0)) := by
  simp [World.setRow, Array.getElem?_modify, h]
theorem res_row_tmp {P : Program} {fn : Func} {p u : Tmp} {ty : TypeId} (h : fn.results = #[.cell p ty, .tmp u]) (tmps : Array Value) (w : World) (g : Nat) (t : TypeId) (cs : Array Value) (fr : Nat × Nat) (z : Value) (d : TypeDesc) (hp : tmps.getD p undef = .pointer (some ⟨g, 0, none⟩)) (hz : tmps.getD u undef = z)
    (hg : w.heap[g]? = some (.cells cs t fr)) (hu : P.underlying ty = some d) (hd : (match d with | .struct _ | .array _ _ => true | _ => false) = true) (hi : (P.info? ty).map (·.size) = some cs.size) :
    (results fn tmps).run P w = .ok (.tuple #[.agg cs, z]) w := by
  rw [results_cell_tmp h, hp, hz]
  show ((loadVar ty _).run P w).andThen _ = _
  rw [run_loadVar_row w g t ty cs fr d hg hu hd hi]
  rfl
theorem grown_row (W : World) (b : Nat) (cs : Array Value) : W.grownBy (W.setRow b cs) (some b) :=
  ⟨rfl, rfl, rfl, by simp [World.setRow], fun k hk hne => by
    simp only [World.setRow, Array.getElem?_modify]
    rw [if_neg (fun e => hne (by rw [e]))]⟩
theorem Blk.below {W W' : World} {b B : Nat} {c : Array Value} {t : TypeId} (h : Blk W b c t) (hb : Below B W W') (hB : b < B) : Blk W' b c t := (hb.block b hB).trans h
theorem Blk.grown {W W' : World} {b : Nat} {r : Option Nat} {c : Array Value} {t : TypeId} (h : Blk W b c t) (hg : W.grownBy W' r) (hr : r ≠ some b) : Blk W' b c t := (hg.block b h.lt (fun e => hr e.symm)).trans h
theorem Blk.keep {W W' : World} {b : Nat} {c : Array Value} {t : TypeId} (h : Blk W b c t) (hb : Below W.heap.size W W') : Blk W' b c t := h.below hb h.lt
theorem Blk.new (W : World) (c : Array Value) (t : TypeId) : Blk (W.alloc (.cells c t (0, 0))) W.heap.size c t := by
  show (W.heap.push _)[W.heap.size]? = _
  simp
theorem below_new {W W1 : World} {o : Obj} (h : Below (W.alloc o).heap.size (W.alloc o) W1) : Below W.heap.size W W1 :=
  have k : Below W.heap.size W (W.alloc o) := (Below.refl _ W).alloc (Nat.le_refl _) o
  k.trans (h.mono k.size)
theorem below_row {B : Nat} {W W1 : World} (h : Below B W W1) (b : Nat) (hb : B ≤ b) (cs : Array Value) : Below B W (W1.setRow b cs) :=
  ⟨h.os, h.tape, h.output, by have := (grown_row W1 b cs).size; exact Nat.le_trans h.size this, fun k hk => by
    rw [← h.block k hk]
    simp only [World.setRow, Array.getElem?_modify]
    rw [if_neg (by omega)]⟩
theorem below_grown {W W1 : World} (h : Below W.heap.size W W1) (r : Option Nat) : W.grownBy W1 r := ⟨h.os, h.tape, h.output, h.size, fun k hk _ => h.block k hk⟩
theorem Rb.keep {W W' : World} {g : Nat} {s : ByteArray} {f k : Nat} {tv : Value} (h : Rb W g s f k tv) (hb : Below W.heap.size W W') : Rb W' g s f k tv := Blk.keep h hb
theorem Rb.lt {W : World} {g : Nat} {s : ByteArray} {f k : Nat} {tv : Value} (h : Rb W g s f k tv) : g < W.heap.size := Blk.lt h
/-- What a reading of one token gives. -/
def Got (x : Option (LxM.T × List UInt8)) (s : ByteArray) (t : LxM.T) (ok : Bool) (k : Nat) : Prop :=
  match x with
  | some (t', r) => ok = true ∧ t = t' ∧ s.data.toList.drop k = r
  | none => ok = false
end Go.Proofs.YtikbgkndfmcfhaaDoor
