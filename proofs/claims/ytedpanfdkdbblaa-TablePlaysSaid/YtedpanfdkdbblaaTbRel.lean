/- The relation between memory and the document's table that package table keeps; what seek does. -/
import Derived.Test.YtedpanfdkdbblaaTbSpot
import Derived.Test.YtedpanfdkdbblaaTbNum
import Derived.Test.YtedpanfdkdbblaaTbMv
import Derived.Test.YtedpanfdkdbblaaTbAddW
namespace Go.Proofs.Ytedpanfdkdbblaa
open Go.RowKit
set_option linter.unusedVariables false
def pairs (l : List Nd) : List (List UInt8 × Int) := l.map fun x => (x.s, x.n)
structure Tab (w : World) (q : Nat) (T : Tb) (M : TabM.T) : Prop where
  lies : Lies w q T
  ok : Ok q T
  num : Num T.c.length (sizeOf2 T) T.c.flatten.length T.count M.great
  perm : (pairs (nodes T)).Perm M.l
  work : T.work ≤ 8
/-- How many calls more till nothing moves. -/
def callsLeft (T : Tb) : Nat := if T.two.isSome then callsOf T.c.flatten.length else 0
def TabRel : TabR := fun w F p M m => ∃ q T, p = ⟨q, 0, none⟩ ∧ Tab w q T M ∧ m = callsLeft T ∧ ∀ k ∈ blocks q T, F k
section
variable {w : World} {q : Nat} {T : Tb} {M : TabM.T}
theorem size2_some {B : Nat} {cs : List (List Nd)} (e : T.two = some (B, cs)) : sizeOf2 T = some cs.length := by unfold sizeOf2; rw [e]; rfl
theorem size2_none (e : T.two = none) : sizeOf2 T = none := by unfold sizeOf2; rw [e]; rfl
theorem pow_pos8 {s : Nat} (h : ∃ j, s = 8 * 2 ^ j) : 8 ≤ s := by rcases pow8 h with e | e <;> omega
theorem Num.fits {g : Nat} (h : Num T.c.length (sizeOf2 T) T.c.flatten.length T.count g) : Fits T ∧ T.c.length ≤ 65536 ∧ T.count ≤ 1001 := by
  obtain ⟨a, b⟩ := h.small
  have g9 := h.g9; have cg := h.cg
  have p := pow_pos8 h.pow
  refine ⟨⟨by omega, by omega, fun B cs e => ?_, fun B cs e => ?_, by omega⟩, by omega, by omega⟩
  · have := pow_pos8 (h.mv _ (size2_some e)).1
    omega
  · have := b _ (size2_some e)
    omega
theorem Tab.len (h : Tab w q T M) : M.l.length = T.count := by rw [h.ok.cnt, ← h.perm.length_eq, pairs, List.length_map]
theorem Tab.names_ (h : Tab w q T M) : (M.l.map Prod.fst).Nodup := by
  refine (h.perm.map Prod.fst).nodup_iff.1 ?_
  unfold pairs
  rw [List.map_map]
  exact h.ok.names
theorem flat_le (T : Tb) : T.c.flatten.length ≤ (nodes T).length := by unfold nodes; rw [List.length_append]; omega
theorem Tab.moved {T1 : Tb} (h : Tab w q T M) (mv : Mv q T T1) : Mid T1.c.length (sizeOf2 T1) T1.c.flatten.length T1.count M.great ∧ callsLeft T1 ≤ callsLeft T - 1 ∧ (pairs (nodes T1)).Perm M.l := by
  have n := h.num
  refine ⟨?_, ?_, (mv.perm.map _).trans h.perm⟩
  · rcases e : T.two with _ | ⟨B, cs⟩
    · obtain ⟨e1, e2⟩ := mv.none_ e
      rw [size2_none e] at n
      have fl : T1.c.flatten.length = T1.count := by
        have := mv.ok.cnt
        unfold nodes at this
        rw [e1] at this
        simpa [second] using this.symm
      have fl0 : T.c.flatten.length = T.count := (n.still rfl).1
      rw [size2_none e1, e2, fl, mv.count]
      rw [fl0] at n
      exact n.rest
    · rw [size2_some e] at n
      rcases mv.some_ B cs e with ⟨e1, e2, e3⟩ | ⟨cs', e1, e2, e3, e4, e5⟩
      · have fl : T1.c.flatten.length = T1.count := by
          have := mv.ok.cnt
          unfold nodes at this
          rw [e1] at this
          simpa [second] using this.symm
        rw [size2_none e1, e2, fl, mv.count]
        exact n.end_
      · rw [size2_some e1, e2, e3, mv.count]
        exact n.go e4 e5
  · unfold callsLeft
    rcases e : T.two with _ | ⟨B, cs⟩
    · obtain ⟨e1, e2⟩ := mv.none_ e
      rw [e1]; exact Nat.zero_le _
    · rcases mv.some_ B cs e with ⟨e1, e2, e3⟩ | ⟨cs', e1, e2, e3, e4, e5⟩
      · rw [e1]; exact Nat.zero_le _
      · rw [e1]
        have := calls_less e4 e5
        show callsOf _ ≤ callsOf _ - 1
        omega
/-- The name is in no chain, so it is nowhere. -/
theorem gone_all (ok : Ok q T) {s : List UInt8} (h1 : Gone (some (T.B, T.c)) s) (h2 : Gone T.two s) : ∀ y ∈ nodes T, y.s ≠ s := fun y hy e => by
  have at_ : ∀ {cs : List (List Nd)}, y ∈ cs.flatten → ∃ i, y ∈ chainAt cs i := fun {cs} h => by
    obtain ⟨l, hl, hx⟩ := List.mem_flatten.1 h
    obtain ⟨i, hi, e⟩ := List.getElem_of_mem hl
    exact ⟨i, by rw [chainAt_is hi, e]; exact hx⟩
  unfold nodes at hy
  rcases List.mem_append.1 hy with k | k
  · obtain ⟨i, hi⟩ := at_ k
    have := ok.p1 i y hi
    exact h1 T.B T.c rfl y (by rw [← e, this]; exact hi) e
  · rcases e2 : T.two with _ | ⟨B, cs⟩
    · rw [e2] at k; cases k
    · rw [e2] at k
      obtain ⟨i, hi⟩ := at_ k
      have := ok.p2 B cs e2 i y hi
      exact h2 B cs e2 y (by rw [← e, this]; exact hi) e
/-- Where the name stands. -/
def At (T : Tb) (s : List UInt8) (v : Value) : Prop := ∃ b B cs pre x post, Of T b B cs ∧ chainAt cs (sl cs s) = pre ++ x :: post ∧ x.s = s ∧ v = .pointer (some (linkAt ⟨B, sl cs s, none⟩ pre))
theorem at_of {s : List UInt8} {v : Value} (h : There (some (T.B, T.c)) s v ∨ There T.two s v) : At T s v := by
  rcases h with ⟨B, cs, pre, x, post, e, a, b, c⟩ | ⟨B, cs, pre, x, post, e, a, b, c⟩
  · injection e with e
    injection e with e1 e2
    exact ⟨true, B, cs, pre, x, post, ⟨e1.symm, e2.symm⟩, a, b, c⟩
  · exact ⟨false, B, cs, pre, x, post, e, a, b, c⟩
theorem seek_nil (w : World) (s : ByteArray) : Calls Try.prog 28 #[.pointer none, .string s] w fun e w' => e = .returned (.pointer none) ∧ w' = w := by
  go_enter Try.func28, Try.ntmps28
  go_wp2_with fail
  go_ret
  exact ⟨rfl, rfl⟩
theorem seek_any (h : Tab w q T M) (s : ByteArray) (hs : s.size ≤ 64) :
    Calls Try.prog 28 #[.pointer (some ⟨q, 0, none⟩), .string s] w fun e w' => ∃ T1, Lies w' q T1 ∧ Mv q T T1 ∧ Only (fun k => k ∈ blocks q T) w w' ∧
      ((e = .returned (.pointer none) ∧ ∀ y ∈ nodes T1, y.s ≠ s.data.toList) ∨ ∃ v, e = .returned v ∧ At T1 s.data.toList v) := by
  have H := Lib.hid h
  have hs' : Hid (s.size ≤ 64) := hs
  clear h hs
  go_enter Try.func28, Try.ntmps28
  go_wp2_with fail
  go_at_call 33
  refine (move_any w q T H.out.lies H.out.ok H.out.num.fits.1).mono ?_
  rintro e w1 ⟨rfl, T1, l1, mv, o1⟩
  have H1 := Lib.hid (And.intro l1 (And.intro mv o1))
  clear l1 mv o1
  have f1 : Fits T1 := (by
    have := (H.out.moved H1.out.2.1).1.num
    exact this.fits.1)
  have F1 := Lib.hid f1
  clear f1
  go_wp2_with fail
  go_at_call 34
  refine (find_any w1 q T1 H1.out.1 F1.out s (by have := hs'.out; omega)).mono ?_
  rintro e w2 ⟨hb, hr⟩
  have HB := Lib.hid hb
  have L2 := Lib.hid (H1.out.1.below hb)
  have O2 : Hid (Only (fun k => k ∈ blocks q T) w w2) := H1.out.2.2.trans (Only.of_below (F := fun _ => False) hb) fun _ e => e.elim
  clear hb
  rcases hr with ⟨rfl, g1, g2⟩ | ⟨v, rfl, at_⟩
  · have G := Lib.hid (gone_all H1.out.2.1.ok g1 g2)
    clear g1 g2
    go_wp2_with fail
    go_ret
    exact ⟨T1, L2.out, H1.out.2.1, O2.out, .inl ⟨rfl, G.out⟩⟩
  · have A := Lib.hid (at_of at_)
    clear at_
    go_wp2_with fail
    go_ret
    exact ⟨T1, L2.out, H1.out.2.1, O2.out, .inr ⟨v, rfl, A.out⟩⟩
end
end Go.Proofs.Ytedpanfdkdbblaa
