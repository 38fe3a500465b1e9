/- The document's own table (scriptoriumref3.Table) in memory: a struct of two cells, a row of pairs of two cells each; what its Get tells. -/
import Derived.Test.YtedpanfdkdbblaaTabI
import Derived.Deep.AppendLies
import Derived.Deep.RegionLaw
namespace Go.Proofs.Ytedpanfdkdbblaa
open Go.RowKit
set_option linter.unusedVariables false
/-- The cells of a row of pairs, one behind the other. -/
def pcells : List (List UInt8 × Int) → List Value
  | [] => []
  | a :: r => .string ⟨a.1.toArray⟩ :: .int .i64 a.2 :: pcells r
theorem pcells_length : ∀ l : List (List UInt8 × Int), (pcells l).length = l.length * 2
  | [] => rfl
  | a :: r => by simp [pcells, pcells_length r]; omega
theorem pcells_append : ∀ a b : List (List UInt8 × Int), pcells (a ++ b) = pcells a ++ pcells b
  | [], b => rfl
  | f :: r, b => by simp [pcells, pcells_append r b]
theorem pcells_one : ∀ (l : List (List UInt8 × Int)), ∀ u ∈ pcells l, u.oneCell' = true
  | [], u, h => by cases h
  | a :: r, u, h => by
    simp only [pcells, List.mem_cons] at h
    rcases h with rfl | rfl | h
    · rfl
    · rfl
    · exact pcells_one r u h
theorem pcells_at : ∀ (l : List (List UInt8 × Int)) (i : Nat) (h : i < l.length), (pcells l)[i * 2]? = some (.string ⟨l[i].1.toArray⟩) ∧ (pcells l)[i * 2 + 1]? = some (.int .i64 l[i].2)
  | [], i, h => by cases h
  | a :: r, 0, h => by simp [pcells]
  | a :: r, i + 1, h => by
    obtain ⟨x, y⟩ := pcells_at r i (by simpa using h)
    have e : (i + 1) * 2 = i * 2 + 2 := by omega
    rw [e]
    simp only [pcells, List.getElem?_cons_succ, List.getElem_cons_succ]
    exact ⟨x, y⟩
/-- Block g is a table of the document's; its row and it lie in blocks of G. -/
structure RT (w : World) (B : Nat) (G : Nat → Prop) (g : Nat) (M : TabM.T) : Prop where
  row : ∃ v, w.cell? ⟨g, 0, none⟩ = some v ∧ w.ownsRow B 54 2 v M.l.length (pcells M.l) ∧ ∀ k, v.ownBlock = some k → k ≠ g ∧ G k
  great : w.cell? ⟨g, 1, none⟩ = some (.int .i64 (M.great : Int))
  free : ∀ i, w.frozen? ⟨g, i, none⟩ = false
  lt : g < w.heap.size
  own : G g
  few : M.l.length ≤ 1000
  great9 : M.great ≤ 1000
/-- The row, as the walks want it. -/
structure RRow (w : World) (h : Nat) (A : Option Addr) (n c : Nat) (l : List (List UInt8 × Int)) : Prop where
  len : l.length = n
  le : n ≤ c
  nil : (A = none ∧ c = 0) ∨ A = some ⟨h, 0, none⟩
  cells : ∀ i (k : i < l.length), w.cell? ⟨h, i * 2, none⟩ = some (.string ⟨l[i].1.toArray⟩) ∧ w.cell? ⟨h, i * 2 + 1, none⟩ = some (.int .i64 l[i].2)
  free : 0 < n → ∀ i, w.frozen? ⟨h, i, none⟩ = false
theorem add0 (h j : Nat) : (⟨h, 0, none⟩ : Addr).add j = ⟨h, j, none⟩ := by
  unfold Addr.add
  split
  · rename_i e; rw [e]
  · simp
theorem RT.open_ {w : World} {B : Nat} {G : Nat → Prop} {g : Nat} {M : TabM.T} (R : RT w B G g M) : ∃ h A c, w.cell? ⟨g, 0, none⟩ = some (.slice A M.l.length c) ∧ w.ownsRow B 54 2 (.slice A M.l.length c) M.l.length (pcells M.l) ∧ RRow w h A M.l.length c M.l ∧ (∀ k, (Value.slice A M.l.length c).ownBlock = some k → k ≠ g ∧ G k) ∧ (A = some ⟨h, 0, none⟩ → h ≠ g ∧ G h ∧ h < w.heap.size) := by
  obtain ⟨v, hc, ho, hG⟩ := R.row
  have ho2 := ho
  rcases ho.2 with ⟨rfl, h0⟩ | ⟨h, cap, cur, rfl, hB, hb, hcap, hm, hs, ht⟩
  · have eq : Value.slice none M.l.length 0 = .slice none 0 0 := by rw [h0]
    refine ⟨0, none, 0, by rw [eq]; exact hc, by rw [eq]; exact ho, ⟨rfl, Nat.le_of_eq h0, .inl ⟨rfl, rfl⟩, fun i k => absurd k (by omega), fun k => absurd k (by omega)⟩, fun k e => (nomatch e), fun e => (nomatch e)⟩
  · have hl : h < w.heap.size := (Array.getElem?_eq_some_iff.1 hb).1
    refine ⟨h, some ⟨h, 0, none⟩, cap, hc, ho2, ⟨rfl, hcap, .inr rfl, fun i k => ?_, fun _ i => by simp [World.frozen?, hb]⟩, hG, fun _ => ⟨(hG h rfl).1, (hG h rfl).2, hl⟩⟩
    obtain ⟨x, y⟩ := pcells_at M.l i k
    have c1 := ho2.cells (g := h) rfl _ _ x
    have c2 := ho2.cells (g := h) rfl _ _ y
    rw [add0] at c1 c2
    exact ⟨c1, c2⟩
theorem find_at {l : List (List UInt8 × Int)} {s : List UInt8} {k : Nat} (hk : k < l.length) (h : ∀ j (hj : j < l.length), j < k → l[j].1 ≠ s) (e : l[k].1 = s) : TabM.get l s = some l[k].2 := by
  unfold TabM.get
  have : l.find? (fun a => a.1 == s) = some l[k] := by
    rw [List.find?_eq_some_iff_getElem]
    refine ⟨by simp [e], k, hk, rfl, fun j hj => ?_⟩
    simpa using h j (by omega) hj
  rw [this]
  rfl
theorem find_none {l : List (List UInt8 × Int)} {s : List UInt8} (h : ∀ j (hj : j < l.length), l[j].1 ≠ s) : TabM.get l s = none := by
  unfold TabM.get
  rw [List.find?_eq_none.2 fun a ha => ?_]
  · rfl
  · obtain ⟨j, hj, rfl⟩ := List.getElem_of_mem ha
    simpa using h j hj
theorem pairN {s : List UInt8} {l : List (List UInt8 × Int)} (h : TabM.get l s = none) : pair (TabM.was l s) (TabM.is l s) = .tuple #[.int .i64 0, .bool false] := by
  unfold TabM.was TabM.is pair; rw [h]; rfl
theorem pairS {s : List UInt8} {l : List (List UInt8 × Int)} {n : Int} (h : TabM.get l s = some n) : pair (TabM.was l s) (TabM.is l s) = .tuple #[.int .i64 n, .bool true] := by
  unfold TabM.was TabM.is pair; rw [h]; rfl
set_option maxHeartbeats 2000000 in
theorem rget_any (w : World) (B : Nat) (G : Nat → Prop) (g : Nat) (M : TabM.T) (R : RT w B G g M) (s : ByteArray) :
    Calls Try.prog 24 #[.pointer (some ⟨g, 0, none⟩), .string s] w fun e w' => e = .returned (pair (TabM.was M.l s.data.toList) (TabM.is M.l s.data.toList)) ∧ w' = w := by
  obtain ⟨h, A, c, c0, -, rr, -, -⟩ := R.open_
  have HR := Lib.hid rr
  have few := R.few
  obtain ⟨n, hn⟩ : ∃ n, M.l.length = n := ⟨_, rfl⟩
  have HN := Lib.hid hn
  rw [hn] at c0 few
  have n9 : (n : Int) ≤ 1000 := by omega
  have nc : (n : Int) ≤ (c : Int) := by have := rr.le; omega
  clear R rr hn few
  go_enter Try.func24, Try.ntmps24
  go_wp2_with fail
  go_loop [6] (fun i => ∃ k : Nat, k ≤ n ∧ i = .int .i64 k ∧ ∀ j (hj : j < M.l.length), j < k → M.l[j].1 ≠ s.data.toList) (fun i => n - (intOf i).toNat)
  case atStart => exact ⟨0, Nat.zero_le _, rfl, fun j hj h => absurd h (Nat.not_lt_zero _)⟩
  case round =>
    obtain ⟨k, hk, rfl, hb⟩ := hrel
    have HB := Lib.hid hb
    clear hb
    have k0 : (0 : Int) ≤ (k : Int) := by omega
    by_cases hlt : k < n
    · have k1 : (k : Int) < (n : Int) := by omega
      have hkl : k < M.l.length := by rw [HN.out]; exact hlt
      have hnil := HR.out.nil
      have hle := HR.out.le
      rw [HN.out] at hle
      obtain ⟨rfl, rfl⟩ | rfl := hnil
      · exact absurd hle (by omega)
      · obtain ⟨f1, f2⟩ := HR.out.cells k hkl
        obtain ⟨nm, hnm⟩ : ∃ nm : ByteArray, (⟨M.l[k].1.toArray⟩ : ByteArray) = nm := ⟨_, rfl⟩
        obtain ⟨x, hx⟩ : ∃ x, M.l[k].2 = x := ⟨_, rfl⟩
        have NM : Hid (nm.data.toList = M.l[k].1) := by show nm.data.toList = M.l[k].1; rw [← hnm]
        rw [hnm] at f1
        rw [hx] at f2
        have HX := Lib.hid hx
        have HKL := Lib.hid hkl
        clear hnm hle hx
        cases e : (nm.toList == s.toList)
        · have e' : nm.toList ≠ s.toList := beq_eq_false_iff_ne.1 e
          have E := Lib.hid e'
          clear e'
          go_wp2_with fail
          go_round
          case rel => exact ⟨k + 1, hlt, by go_num, fun j hj hjk => by
            by_cases x : j = k
            · subst x; rw [← NM.out, ← ByteArray.toList_eq, ← ByteArray.toList_eq]; exact E.out
            · exact HB.out j hj (by omega)⟩
          case measure => simp [intOf]; omega
        · have e' : nm.toList = s.toList := beq_iff_eq.1 e
          have P := Lib.hid (pairS (find_at HKL.out HB.out (by rw [← NM.out, ← ByteArray.toList_eq, ← ByteArray.toList_eq]; exact e')))
          clear e'
          go_wp2_with fail
          go_ret2
          exact ⟨by rw [P.out, HX.out]; rfl, rfl⟩
    · have k1 : (n : Int) ≤ (k : Int) := by omega
      have P := Lib.hid (pairN (find_none fun j hj => HB.out j hj (by have := HN.out; omega)))
      go_wp2_with fail
      go_ret2
      exact ⟨by rw [P.out]; rfl, rfl⟩
end Go.Proofs.Ytedpanfdkdbblaa
