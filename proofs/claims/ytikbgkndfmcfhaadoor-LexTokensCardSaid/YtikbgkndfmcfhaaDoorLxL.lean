/- Package lex: Lex: the tokens of a text. -/
import Derived.Test.YtikbgkndfmcfhaaDoorLxRd
namespace Go.Proofs.YtikbgkndfmcfhaaDoor
open Go.RowKit
set_option linter.unusedVariables false
theorem sizeR : (Tryd.prog.info? 36).map (·.size) = some 4 := by kernel_rfl
theorem oneR (s : ByteArray) : (#[Value.string s, .int .i64 0, .int .i64 0, .slice none 0 0] : Array Value).all (·.oneCell') = true := by simp [Value.oneCell']
/-- What Lex returns. -/
def PL (s : ByteArray) (W : World) (e : Ending) (W' : World) : Prop :=
  (∃ tv err p, e = .returned (.tuple #[tv, .int .i64 err, .int .i64 p]) ∧
    match LxM.lex s.data.toList with
    | .ok l => err = 0 ∧ p = 0 ∧ TRow W' W.heap.size tv l
    | .bad q => err = 14 ∧ p = (q : Int) ∧ tv = .slice none 0 0) ∧ Below W.heap.size W W'
set_option maxHeartbeats 2000000 in
theorem lex_any (W : World) (s : ByteArray) (hs : s.size ≤ 16384) (er : Er W) :
    Calls Tryd.prog 9 #[.string s] W (PL s W) := by
  have hs2 : (s.size : Int) ≤ 16384 := by omega
  have hgt : decide (16384 < s.size) = false := decide_eq_false (by omega)
  have NB := Lib.hid (Blk.new W #[.string ⟨#[]⟩, .int .i64 0, .int .i64 0, .slice none 0 0] 36)
  have RB : Hid (Rb ((W.alloc (.cells #[.string ⟨#[]⟩, .int .i64 0, .int .i64 0, .slice none 0 0] 36)).setRow W.heap.size #[.string s, .int .i64 0, .int .i64 0, .slice none 0 0]) W.heap.size s 0 0 (.slice none 0 0)) := setRow_heap' _ _ _ _ _ NB.out
  have BW : Hid (Below W.heap.size W ((W.alloc (.cells #[.string ⟨#[]⟩, .int .i64 0, .int .i64 0, .slice none 0 0] 36)).setRow W.heap.size #[.string s, .int .i64 0, .int .i64 0, .slice none 0 0])) := below_row ((Below.refl _ W).alloc (Nat.le_refl _) _) _ (Nat.le_refl _) _
  have RD := Lib.hid (read_any _ W.heap.size s RB.out hs (er.below BW.out er.two) er.two)
  have sz : Hid (W.heap.size ≤ ((W.alloc (.cells #[.string ⟨#[]⟩, .int .i64 0, .int .i64 0, .slice none 0 0] 36)).setRow W.heap.size #[.string s, .int .i64 0, .int .i64 0, .slice none 0 0]).heap.size) := BW.out.size
  unfold PL
  obtain ⟨F, hF⟩ : ∃ F, LxM.lex s.data.toList = F := ⟨_, rfl⟩
  rw [hF] at RD ⊢
  clear er hs hF
  cases F with
  | ok l =>
    go_enter Tryd.func9, Tryd.ntmps9
    go_wp2_with (first
      | (refine wpList_store_row rfl 36 (.tmp 5) (.tmp 10) rfl W.heap.size #[.string s, .int .i64 0, .int .i64 0, .slice none 0 0] rfl rfl 36 _ NB.out sizeR rfl (oneR s) ?_)
      | (refine wp_store_row 36 (.tmp 5) (.tmp 10) rfl W.heap.size #[.string s, .int .i64 0, .int .i64 0, .slice none 0 0] rfl rfl 36 _ NB.out sizeR rfl (oneR s) ?_))
    go_at_call 16
    refine RD.out.mono ?_
    rintro e W1 ⟨o, f, k, tv, rfl, rd, gr, rfl, row⟩
    obtain ⟨c0, c1, c2, c3, -, -, -⟩ := rd.four
    have ROW := Lib.hid row
    have GR := Lib.hid gr
    clear rd gr row
    go_wp2_with fail
    go_ret3
    refine ⟨?_, ?_⟩
    · exact ⟨_, _, _, rfl, rfl, rfl, own_less ROW.out sz.out⟩
    · exact BW.out.grown GR.out sz.out (fun i hi => by have := Option.some.inj hi; omega)
  | bad q =>
    go_enter Tryd.func9, Tryd.ntmps9
    go_wp2_with (first
      | (refine wpList_store_row rfl 36 (.tmp 5) (.tmp 10) rfl W.heap.size #[.string s, .int .i64 0, .int .i64 0, .slice none 0 0] rfl rfl 36 _ NB.out sizeR rfl (oneR s) ?_)
      | (refine wp_store_row 36 (.tmp 5) (.tmp 10) rfl W.heap.size #[.string s, .int .i64 0, .int .i64 0, .slice none 0 0] rfl rfl 36 _ NB.out sizeR rfl (oneR s) ?_))
    go_at_call 16
    refine RD.out.mono ?_
    rintro e W1 ⟨o, f, k, tv, rfl, rd, gr, rfl, rfl⟩
    obtain ⟨c0, c1, c2, c3, -, -, -⟩ := rd.four
    have GR := Lib.hid gr
    clear rd gr
    go_wp2_with (go_quiet (fail))
    go_ret3
    refine ⟨?_, ?_⟩
    · exact ⟨_, _, _, rfl, rfl, rfl, rfl⟩
    · have z := BW.out.grown GR.out sz.out (fun i hi => by have := Option.some.inj hi; omega)
      exact ⟨z.os, z.tape, z.output, z.size, z.block⟩
theorem lex_great (W : World) (s : ByteArray) (hs : 16384 < s.size) :
    Calls Tryd.prog 9 #[.string s] W fun e W' => e = .returned (.tuple #[.slice none 0 0, .int .i64 8, .int .i64 0]) ∧ W = W' := by
  have hgt : decide (16384 < s.size) = true := decide_eq_true hs
  go_enter Tryd.func9, Tryd.ntmps9
  go_wp2_with fail
  go_ret3
  exact ⟨rfl, rfl⟩
/-- A slice that reads as tokens. -/
def TList (w : World) (v : Value) (l : List LxM.T) : Prop := ∃ A c, v = .slice A l.length c ∧ (A = none → c = 0) ∧ l.length ≤ c ∧ ∀ i (h : i < l.length), ∃ p : Addr, A = some p ∧ p.block < w.heap.size ∧ w.cell? (p.add (i * 4)) = some (.int .i64 l[i].kind) ∧ w.cell? (p.add (i * 4 + 1)) = some (.string ⟨l[i].text.toArray⟩) ∧ w.cell? (p.add (i * 4 + 2)) = some (.int .i64 l[i].n) ∧ w.cell? (p.add (i * 4 + 3)) = some (.int .i64 (l[i].at_ : Int))
theorem tcells_at : ∀ (l : List LxM.T) (i : Nat) (h : i < l.length), (tcells l)[i * 4]? = some (.int .i64 l[i].kind) ∧ (tcells l)[i * 4 + 1]? = some (.string ⟨l[i].text.toArray⟩) ∧ (tcells l)[i * 4 + 2]? = some (.int .i64 l[i].n) ∧ (tcells l)[i * 4 + 3]? = some (.int .i64 (l[i].at_ : Int))
  | [], i, h => by cases h
  | a :: r, 0, h => by simp [tcells, tcs]
  | a :: r, i + 1, h => by
    have k := tcells_at r i (by simpa using h)
    have e : (i + 1) * 4 = i * 4 + 4 := by omega
    rw [e]
    simpa [tcells, tcs] using k
theorem TRow.list {w : World} {base : Nat} {v : Value} {l : List LxM.T} (h : TRow w base v l) : TList w v l := by
  have h' := h
  unfold TRow at h'
  rcases h'.2 with ⟨rfl, h0⟩ | ⟨g, cap, cur, rfl, hg, hb, hc, _, hs, ht⟩
  · have e : l = [] := List.eq_nil_of_length_eq_zero h0
    subst e
    exact ⟨none, 0, rfl, fun _ => rfl, Nat.le_refl _, fun i hi => absurd hi (by simp)⟩
  · refine ⟨_, cap, rfl, (fun e => nomatch e), hc, fun i hi => ?_⟩
    have hlt : g < w.heap.size := (Array.getElem?_eq_some_iff.1 hb).1
    obtain ⟨x, y, z, u⟩ := tcells_at l i hi
    exact ⟨_, rfl, hlt, h'.cells (g := g) rfl _ _ x, h'.cells (g := g) rfl _ _ y, h'.cells (g := g) rfl _ _ z, h'.cells (g := g) rfl _ _ u⟩
theorem TList.keep {w w' : World} {v : Value} {l : List LxM.T} (h : TList w v l) (hb : Below w.heap.size w w') : TList w' v l := by
  obtain ⟨A, c, e, hA, hc, hr⟩ := h
  refine ⟨A, c, e, hA, hc, fun i hi => ?_⟩
  obtain ⟨p, ep, hp, h0, h1, h2, h3⟩ := hr i hi
  have k : ∀ j, w'.cell? (p.add j) = w.cell? (p.add j) := fun j => hb.cell (by rw [add_block]; exact hp)
  exact ⟨p, ep, Nat.lt_of_lt_of_le hp hb.size, by rw [k]; exact h0, by rw [k]; exact h1, by rw [k]; exact h2, by rw [k]; exact h3⟩
end Go.Proofs.YtikbgkndfmcfhaaDoor
