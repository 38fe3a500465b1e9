/- A row of the document's files as a call makes it: appended to in a region that draws its order. -/
import Derived.Test.YthclaolmmlgalaaRefDisk2
import Derived.Test.YthclaolmmlgalaaDkFind
import Derived.Deep.AppendLies
import Derived.Deep.RegionLaw
namespace Go.Proofs.Ythclaolmmlgalaa
open Go.RowKit
set_option linter.unusedVariables false

/-- The cells of a row of files, one behind the other. -/
def fcells : List DiskM.F → List Value
  | [] => []
  | f :: r => .string ⟨f.name.toArray⟩ :: .string ⟨f.b.toArray⟩ :: .int .i64 (f.sync : Int) :: fcells r
theorem fcells_length : ∀ l : List DiskM.F, (fcells l).length = l.length * 3
  | [] => rfl
  | f :: r => by simp [fcells, fcells_length r]; omega
theorem fcells_append : ∀ a b : List DiskM.F, fcells (a ++ b) = fcells a ++ fcells b
  | [], b => rfl
  | f :: r, b => by simp [fcells, fcells_append r b]
theorem fcells_one : ∀ (l : List DiskM.F), ∀ u ∈ fcells l, u.oneCell' = true
  | [], u, h => by cases h
  | f :: r, u, h => by
    simp only [fcells, List.mem_cons] at h
    rcases h with rfl | rfl | rfl | h
    · rfl
    · rfl
    · rfl
    · exact fcells_one r u h
theorem fcells_at : ∀ (l : List DiskM.F) (i : Nat) (h : i < l.length), (fcells l)[i * 3]? = some (.string ⟨l[i].name.toArray⟩) ∧ (fcells l)[i * 3 + 1]? = some (.string ⟨l[i].b.toArray⟩) ∧ (fcells l)[i * 3 + 2]? = some (.int .i64 (l[i].sync : Int))
  | [], i, h => by cases h
  | f :: r, 0, h => by simp [fcells]
  | f :: r, i + 1, h => by
    obtain ⟨a, b, c⟩ := fcells_at r i (by simpa using h)
    have e : (i + 1) * 3 = i * 3 + 3 := by omega
    rw [e]
    simp only [fcells, List.getElem?_cons_succ, List.getElem_cons_succ]
    exact ⟨a, b, c⟩
theorem infoF : (Try.prog.info? 52).map (fun i => (i.zero, i.size, i.bytes)) = some (some (.agg #[.string ⟨#[]⟩, .string ⟨#[]⟩, .int .i64 0]), 3, 40) := by kernel_rfl
/-- append of files onto a row of the call's own, as a step of a region that draws its order. -/
theorem step_append_files {w : World} {ops : Array Oper} {o : Oper} {a : Act} {K : Act → World → Prop} {Q : Exit → Act → World → Prop} {E : Prop} (hgd : o.guard = none) (s x : Operand)
    (ho : o.op = .call { callee := .builtin .append, args := #[s, x], argTypes := #[28, 28] })
    (base : Nat) (v : Value) (n : Nat) (xs : List Value) (hs : a.eval s = v) (hown : w.ownsRow base 52 3 v n xs)
    (A : Option Addr) (m c : Nat) (l : List DiskM.F) (hx : a.eval x = .slice A m c) (hlm : l.length = m) (hA : A = none → c = 0)
    (hnews : ∀ j u, (fcells l)[j]? = some u → ∃ ad, A = some ad ∧ w.cell? (ad.add j) = some u) (hb : n + m ≤ 4096) (hbase : base ≤ w.heap.size)
    (h : ∀ v' w', w'.ownsRow base 52 3 v' (n + m) (xs ++ fcells l) → w.grownBy w' v.ownBlock → (v'.ownBlock = v.ownBlock ∨ v'.ownBlock = some w.heap.size) → K (a.put o.dst v') w') :
    if Region.wanted o (yielded ops a.tmps) = true then Oper.wp Try.prog o a w K Q else E := by
  have hw : Region.wanted o (yielded ops a.tmps) = true := by simp [Region.wanted, hgd]
  rw [if_pos hw]
  obtain ⟨i, hi, hz, h1, h2⟩ := info_parts infoF
  subst hlm
  cases A with
  | none =>
    have e : l = [] := by
      cases l with
      | nil => rfl
      | cons f r => obtain ⟨ad, e, _⟩ := hnews 0 _ rfl; cases e
    subst e
    obtain rfl := hA rfl
    have hrun := run_append_owned_none (P := Try.prog) (w := w) base 28 o.type 52 i 3 Try.underlying28 hi v n xs hown
    unfold Oper.wp
    simp [execOp, ho, resolve, invoke, builtin, hs, hx, hrun, Result.andThen]
    exact h v w (by simpa [fcells] using hown) (World.grownBy.refl w _) (.inl rfl)
  | some ad =>
    obtain ⟨v', w', hr, k2, k3, k4, k5⟩ := run_append_own_at (P := Try.prog) w base 28 o.type 52 i _ 3 40 Try.underlying28 hi hz h1 h2 rfl (by decide) v n xs hown ad l.length c (fcells l) (fcells_length l) (fun j u hu => by obtain ⟨ad', e, hc⟩ := hnews j u hu; cases e; exact hc) (fcells_one l) (by unfold maxLen; omega) (by omega) hbase
    unfold Oper.wp execOp
    simp only [ho, resolve, invoke, builtin, Sem.run_bind, Sem.run_pure, Result.andThen_ok, List.map_toArray, List.map_cons, List.map_nil, hs, hx, hr]
    exact h v' w' k2 k3 k5
theorem row_slice {w : World} {base n size : Nat} {t : TypeId} {v : Value} {xs : List Value} (h : w.ownsRow base t size v n xs) : ∃ A c, v = .slice A n c := by
  rcases h.2 with ⟨rfl, h0⟩ | ⟨g, cap, cur, rfl, hg, hb, hc, r⟩
  · exact ⟨none, 0, by rw [h0]⟩
  · exact ⟨_, cap, rfl⟩
theorem row_far {w w' : World} {base n size : Nat} {t : TypeId} {v : Value} {xs : List Value} (h : w.ownsRow base t size v n xs) (k : ∀ b, v.ownBlock = some b → base ≤ b → w'.heap[b]? = w.heap[b]?) : w'.ownsRow base t size v n xs := by
  obtain ⟨h1, h2⟩ := h
  refine ⟨h1, ?_⟩
  rcases h2 with x | ⟨g, cap, cur, rfl, hg, hb, r⟩
  · exact .inl x
  · exact .inr ⟨g, cap, cur, rfl, hg, (k g rfl hg).trans hb, r⟩
end Go.Proofs.Ythclaolmmlgalaa
