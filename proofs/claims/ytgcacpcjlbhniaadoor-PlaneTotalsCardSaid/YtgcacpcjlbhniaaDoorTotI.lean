/- What the law PlaneTotals needs beside: rows of points, their sum, numbers' texts; what it asks of package plane. -/
import Derived.Test.YtgcacpcjlbhniaaDoorPlaneT
import Derived.Test.YtgcacpcjlbhniaaDoorFmt
import Derived.Lib.ItoaLen
import Derived.Lib.ItoaMem
import Derived.Lib.ItoaNum
import Derived.Lib.SmallJoins
import Derived.Laws.AppendOwnNone
import Derived.Maps.AppendAt
import Derived.OwnWalk
namespace Go.Proofs.YtgcacpcjlbhniaaDoor
open Go.RowKit
set_option linter.unusedVariables false
theorem below_grow {w w' : World} {k : Nat} {os : Array Obj} (h : w' = Sort.grow (w.drewN k) os) : Below w.heap.size w w' := by
  subst h
  refine ⟨rfl, rfl, rfl, ?_, fun i hi => ?_⟩
  · show w.heap.size ≤ (w.heap ++ os).size
    simp
  · show (w.heap ++ os)[i]? = w.heap[i]?
    rw [Array.getElem?_append_left hi]
theorem gPow : Tryd.prog.globalNamed "internal/strconv.uint64pow10" = some 1 := by kernel_rfl
theorem tab_below {w w' : World} (h : Lib.TabIs Tryd.prog w "internal/strconv.uint64pow10" .u64 Lib.pow10Tab) (hb : Below w.heap.size w w') : Lib.TabIs Tryd.prog w' "internal/strconv.uint64pow10" .u64 Lib.pow10Tab := Joins.tab_stays gPow h hb (Nat.le_refl _)
set_option maxHeartbeats 400000 in
theorem rprint_any (n : Int) (n1 : -9223372036854775808 ≤ n) (n2 : n ≤ 9223372036854775807) (w : World) (htab : Lib.TabIs Tryd.prog w "internal/strconv.uint64pow10" .u64 Lib.pow10Tab) :
    Calls Tryd.prog 6 #[.int .i64 n] w fun e w' => e = .returned (.string ⟨(Lib.itoa n).toArray⟩) ∧ Below w.heap.size w w' := by
  have H := Lib.hid htab
  clear htab
  go_enter Tryd.func6, Tryd.ntmps6
  go_wp2_with (go_at_call 15; refine (Tryd.strconv_FormatInt_10 n n1 n2 _ H.out).mono ?_; rintro e w' ⟨rfl, k, os, hw⟩; have hb := below_grow hw; clear hw)
  go_ret
  exact ⟨rfl, hb⟩
/-- The cells of points, one behind the other. -/
def pcells : List (Int × Int) → List Value
  | [] => []
  | a :: r => .string ⟨#[]⟩ :: Pv a.1 a.2 :: pcells r
theorem pcells_length : ∀ l : List (Int × Int), (pcells l).length = l.length * 2
  | [] => rfl
  | a :: r => by simp [pcells, pcells_length r]; omega
theorem pcells_append : ∀ a b : List (Int × Int), pcells (a ++ b) = pcells a ++ pcells b
  | [], b => rfl
  | a :: r, b => by simp [pcells, pcells_append r b]
theorem pcells_one : ∀ (l : List (Int × Int)), ∀ u ∈ pcells l, u.oneCell' = true
  | [], u, h => by cases h
  | a :: r, u, h => by
    simp only [pcells, List.mem_cons] at h
    rcases h with rfl | rfl | h
    · rfl
    · rfl
    · exact pcells_one r u h
theorem pcells_at : ∀ (l : List (Int × Int)) (i : Nat) (h : i < l.length), (pcells l)[i * 2]? = some (.string ⟨#[]⟩) ∧ (pcells l)[i * 2 + 1]? = some (Pv l[i].1 l[i].2)
  | [], i, h => by cases h
  | a :: r, 0, h => by simp [pcells]
  | a :: r, i + 1, h => by
    obtain ⟨x, y⟩ := pcells_at r i (by simpa using h)
    have e : (i + 1) * 2 = i * 2 + 2 := by omega
    rw [e]
    simp only [pcells, List.getElem?_cons_succ, List.getElem_cons_succ]
    exact ⟨x, y⟩
/-- The points behind A. -/
def PtRow (w : World) (A : Option Addr) (l : List (Int × Int)) : Prop := ∀ i (h : i < l.length), ∃ p : Addr, A = some p ∧ p.block < w.heap.size ∧ w.cell? (p.add (i * 2)) = some (.string ⟨#[]⟩) ∧ w.cell? ((p.add (i * 2)).add 1) = some (Pv l[i].1 l[i].2)
/-- The sum of points. -/
def psum : List (Int × Int) → Int × Int
  | [] => (0, 0)
  | a :: r => (a.1 + (psum r).1, a.2 + (psum r).2)
theorem psum_append : ∀ a b : List (Int × Int), psum (a ++ b) = ((psum a).1 + (psum b).1, (psum a).2 + (psum b).2)
  | [], b => by simp [psum]
  | x :: r, b => by
    rw [List.cons_append, psum, psum, psum_append r b]
    refine Prod.ext ?_ ?_ <;> simp only <;> omega
def Small (l : List (Int × Int)) : Prop := ∀ a ∈ l, a.1.natAbs ≤ 1000 ∧ a.2.natAbs ≤ 1000
theorem psum_small : ∀ (l : List (Int × Int)), Small l → (psum l).1.natAbs ≤ 1000 * l.length ∧ (psum l).2.natAbs ≤ 1000 * l.length
  | [], _ => by simp [psum]
  | a :: r, h => by
    obtain ⟨x, y⟩ := psum_small r fun b hb => h b (List.mem_cons_of_mem _ hb)
    obtain ⟨u, v⟩ := h a (List.mem_cons_self ..)
    rw [psum, List.length_cons]
    simp only
    omega
theorem psum_rev : ∀ l : List (Int × Int), psum l.reverse = psum l
  | [] => rfl
  | a :: r => by
    rw [List.reverse_cons, psum_append, psum_rev r]
    simp only [psum]
    refine Prod.ext ?_ ?_ <;> simp only <;> omega
/-- What is asked of package plane beside. -/
structure PlaneOk2 : Prop where
  parse : ∀ (m n : Int) (w : World), In m n → Calls Tryd.prog 5 #[.string ⟨(Lib.itoa m).toArray⟩, .string ⟨(Lib.itoa n).toArray⟩] w fun e w' => e = .returned (.tuple #[Pv m n, .bool true]) ∧ Below w.heap.size w w'
  sum : ∀ (A : Option Addr) (l : List (Int × Int)) (c : Nat) (w : World), (A = none → c = 0) → l.length ≤ c → l.length ≤ 20 → PtRow w A l → Small l →
    Calls Tryd.prog 8 #[.slice A l.length c] w fun e w' => e = .returned (.tuple #[Pv (psum l).1 (psum l).2, .bool true]) ∧ Below w.heap.size w w'
theorem infoP : (Tryd.prog.info? 32).map (fun i => (i.zero, i.size, i.bytes)) = some (some (.agg #[.string ⟨#[]⟩, .complex .f64 0 0]), 2, 32) := by kernel_rfl
/-- append of points onto a row of the call's own. -/
theorem wpList_append_pts {w : World} {ops : Array Oper} {rest : List Oper} {o : Oper} {a : Act} {Q : Exit → Act → World → Prop} (hgd : o.guard = none) (s x : Operand)
    (ho : o.op = .call { callee := .builtin .append, args := #[s, x], argTypes := #[24, 24] })
    (w0 : World) (v : Value) (k : List (Int × Int)) (hs : a.eval s = v) (hown : w.ownsRow w0.heap.size 32 2 v k.length (pcells k)) (hb : Below w0.heap.size w0 w)
    (A : Option Addr) (m c : Nat) (l : List (Int × Int)) (hx : a.eval x = .slice A m c) (hm : l.length = m) (hA : A = none → c = 0) (hr : PtRow w A l) (hsz : k.length + m ≤ 4096)
    (h : ∀ v' w', w'.ownsRow w0.heap.size 32 2 v' (k ++ l).length (pcells (k ++ l)) → Below w0.heap.size w0 w' → w.grownBy w' v.ownBlock → (v'.ownBlock = v.ownBlock ∨ v'.ownBlock = some w.heap.size) → wpList Tryd.prog ops Q rest (a.put o.dst v') w') :
    wpList Tryd.prog ops Q (o :: rest) a w := by
  obtain ⟨i, hi, hz, h1, h2⟩ := info_parts infoP
  subst hm
  cases A with
  | none =>
    have e : l = [] := by
      cases l with
      | nil => rfl
      | cons c r => obtain ⟨p, e, _⟩ := hr 0 (by simp); cases e
    subst e
    obtain rfl := hA rfl
    refine wpList_append_own_none hgd s x 24 ho w0.heap.size 32 i 2 Tryd.underlying24 hi v _ _ hs hown hx ?_
    exact h v w (by simpa using hown) hb (World.grownBy.refl w _) (.inl rfl)
  | some p =>
    refine wpList_append_own_at w hgd s x 24 ho w0.heap.size 32 i _ 2 32 Tryd.underlying24 hi hz h1 h2 rfl (by decide) v _ _ hs hown p l.length c (pcells l) hx (pcells_length l) (fun j u hu => ?_) (pcells_one l) (by unfold maxLen; omega) (by omega) hb.size fun v' w' g1 g2 _ g4 => h v' w' (by rw [List.length_append, pcells_append]; exact g1) (hb.grown g2 hb.size fun j hj => (hown.lt j hj).1) g2 g4
    have hj : j < l.length * 2 := by
      have := (List.getElem?_eq_some_iff.1 hu).1
      rw [pcells_length] at this; exact this
    obtain ⟨q, e, _, c0, c1⟩ := hr (j / 2) (by omega)
    cases e
    obtain ⟨e0, e1⟩ := pcells_at l (j / 2) (by omega)
    rcases (by omega : j = j / 2 * 2 ∨ j = j / 2 * 2 + 1) with k | k
    · rw [k, e0] at hu
      rw [k, c0, ← hu]
    · rw [k, e1] at hu
      have hadd : p.add (j / 2 * 2 + 1) = (p.add (j / 2 * 2)).add 1 := by
        by_cases z : j / 2 * 2 = 0
        · rw [z]; simp [Addr.add]
        · simp [Addr.add, z, Nat.add_assoc]
      rw [k, hadd, c1, ← hu]
theorem ow_keep {w w' : World} {base : Nat} {e : TypeId} {k n : Nat} {v : Value} {xs : List Value} (h : w.ownsRow base e k v n xs) (hb : Below w.heap.size w w') : w'.ownsRow base e k v n xs := by
  refine ⟨h.1, ?_⟩
  rcases h.2 with x | ⟨g, cap, cur, hv, hg, hh, rest⟩
  · exact .inl x
  · refine .inr ⟨g, cap, cur, hv, hg, ?_, rest⟩
    have hlt : g < w.heap.size := by
      rcases Nat.lt_or_ge g w.heap.size with k | k
      · exact k
      · rw [Array.getElem?_eq_none k] at hh; cases hh
    rw [hb.block g hlt, hh]
theorem ow_pts {w : World} {base n : Nat} {v : Value} {l : List (Int × Int)} (h : w.ownsRow base 32 2 v n (pcells l)) : ∃ A c, v = .slice A n c ∧ l.length = n ∧ (A = none → c = 0) ∧ n ≤ c ∧ PtRow w A l := by
  have hn : l.length = n := by have := h.1; rw [pcells_length] at this; omega
  rcases h.2 with ⟨rfl, h0⟩ | ⟨g, cap, cur, rfl, hg, hb, hc, _, hs, ht⟩
  · subst h0
    exact ⟨none, 0, rfl, hn, fun _ => rfl, Nat.le_refl _, fun i hi => absurd hi (by omega)⟩
  · refine ⟨_, cap, rfl, hn, (fun e => nomatch e), hc, fun i hi => ?_⟩
    have hlt : g < w.heap.size := by
      rcases Nat.lt_or_ge g w.heap.size with k | k
      · exact k
      · rw [Array.getElem?_eq_none k] at hb; cases hb
    obtain ⟨e0, e1⟩ := pcells_at l i hi
    have c0 := h.cells (g := g) rfl (i * 2) _ e0
    have c1 := h.cells (g := g) rfl (i * 2 + 1) _ e1
    refine ⟨_, rfl, hlt, ?_, ?_⟩
    · have hadd : (⟨g, 0, none⟩ : Addr).add (i * 2) = ⟨g, i * 2, none⟩ := by
        by_cases z : i * 2 = 0
        · rw [z]; rfl
        · simp [Addr.add, z]
      rw [hadd]
      by_cases z : i * 2 = 0
      · rw [z] at c0 ⊢; simpa [Addr.add] using c0
      · simpa [Addr.add, z] using c0
    · have hadd : ((⟨g, 0, none⟩ : Addr).add (i * 2)).add 1 = ⟨g, i * 2 + 1, none⟩ := by
        by_cases z : i * 2 = 0
        · rw [z]; rfl
        · simp [Addr.add, z]
      rw [hadd]
      simpa [Addr.add] using c1
end Go.Proofs.YtgcacpcjlbhniaaDoor
