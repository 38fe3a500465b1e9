/- Structs of two cells: loaded, handed back. -/
import Derived.Test.YtopnbfhkfagemaaDoorFrame
import Derived.Laws.ResultCell
import Derived.Laws.Rows
namespace Go.Proofs.YtopnbfhkfagemaaDoor
open Go.RowKit
set_option linter.unusedVariables false
theorem load_two {P : Program} (w : World) (ty : TypeId) (a : Addr) (x y : Value) (d : TypeDesc) (hu : P.underlying ty = some d) (hd : (match d with | .struct _ | .array _ _ => true | _ => false) = true) (hi : (P.info? ty).map (·.size) = some 2)
    (h0 : w.cell? (a.add 0) = some x) (h1 : w.cell? (a.add 1) = some y) : (loadVar ty a).run P w = .ok (.agg #[x, y]) w := by
  have hl := run_loadCells_list (P := P) w a [x, y] (fun j v hv => by
    match j with
    | 0 => cases hv; exact h0
    | 1 => cases hv; exact h1
    | j + 2 => cases hv)
  cases hq : P.info? ty with
  | none => simp [hq] at hi
  | some i =>
    have hs : i.size = 2 := by simpa [hq] using hi
    have hagg : (isAgg ty).run P w = .ok true w := by
      unfold isAgg
      rw [Sem.run_bind, run_underlying hu w]
      cases d <;> simp_all
    have hl2 : (loadCells a 2).run P w = .ok #[x, y] w := hl
    simp [loadVar, Sem.run_bind, hagg, sizeOf, typeInfo, hq, hs, hl2]
theorem res_two {P : Program} {fn : Func} {p : Tmp} {ty : TypeId} (h : fn.results = #[.cell p ty]) (tmps : Array Value) (w : World) (a : Addr) (x y : Value) (d : TypeDesc) (hp : tmps.getD p undef = .pointer (some a)) (hu : P.underlying ty = some d) (hd : (match d with | .struct _ | .array _ _ => true | _ => false) = true) (hi : (P.info? ty).map (·.size) = some 2)
    (h0 : w.cell? (a.add 0) = some x) (h1 : w.cell? (a.add 1) = some y) : (results fn tmps).run P w = .ok (.agg #[x, y]) w := by
  have hp' : tmps[p]?.getD undef = .pointer (some a) := by simpa using hp
  simp [results, h, hp', asAddr, load_two w ty a x y d hu hd hi h0 h1]
theorem res_two_tmp {P : Program} {fn : Func} {p u : Tmp} {ty : TypeId} (h : fn.results = #[.cell p ty, .tmp u]) (tmps : Array Value) (w : World) (a : Addr) (x y z : Value) (d : TypeDesc) (hp : tmps.getD p undef = .pointer (some a)) (hz : tmps.getD u undef = z) (hu : P.underlying ty = some d) (hd : (match d with | .struct _ | .array _ _ => true | _ => false) = true) (hi : (P.info? ty).map (·.size) = some 2)
    (h0 : w.cell? (a.add 0) = some x) (h1 : w.cell? (a.add 1) = some y) : (results fn tmps).run P w = .ok (.tuple #[.agg #[x, y], z]) w := by
  rw [results_cell_tmp h, hp, hz]
  show ((loadVar ty a).run P w).andThen _ = _
  rw [load_two w ty a x y d hu hd hi h0 h1]
  rfl
end Go.Proofs.YtopnbfhkfagemaaDoor
