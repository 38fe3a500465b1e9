/- Package table: Get, Put, Del. -/
import Derived.Test.YtedpanfdkdbblaaTbRel
namespace Go.Proofs.Ytedpanfdkdbblaa
open Go.RowKit
set_option linter.unusedVariables false
theorem get_none {l : List (List UInt8 × Int)} {s : List UInt8} (h : ∀ a ∈ l, a.1 ≠ s) : TabM.get l s = none := by
  unfold TabM.get
  rw [List.find?_eq_none.2 (fun a ha => by simpa using h a ha)]
  rfl
theorem get_some : ∀ {l : List (List UInt8 × Int)} {s : List UInt8} {n : Int}, (l.map Prod.fst).Nodup → (s, n) ∈ l → TabM.get l s = some n
  | [], _, _, _, h => by cases h
  | a :: r, s, n, hn, h => by
    rw [List.map_cons, List.nodup_cons] at hn
    unfold TabM.get
    rcases List.mem_cons.1 h with e | e
    · subst e
      simp
    · have ne : ¬ a.1 = s := fun x => hn.1 (List.mem_map.2 ⟨_, e, x.symm⟩)
      rw [List.find?_cons_of_neg (by simpa using ne)]
      exact get_some hn.2 e
section
variable {w : World} {q : Nat} {T T1 : Tb} {M : TabM.T}
theorem not_there (hp : (pairs (nodes T1)).Perm M.l) {s : List UInt8} (h : ∀ y ∈ nodes T1, y.s ≠ s) : TabM.get M.l s = none :=
  get_none fun a ha => by
    obtain ⟨y, hy, rfl⟩ := List.mem_map.1 (hp.mem_iff.2 ha)
    exact h y hy
theorem is_there (hp : (pairs (nodes T1)).Perm M.l) (ok : Ok q T1) {x : Nd} (hx : x ∈ nodes T1) : TabM.get M.l x.s = some x.n := by
  refine get_some ?_ (hp.mem_iff.1 (List.mem_map.2 ⟨x, hx, rfl⟩))
  refine (hp.map Prod.fst).nodup_iff.1 ?_
  unfold pairs
  rw [List.map_map]
  exact ok.names
theorem pair_none {s : List UInt8} {l : List (List UInt8 × Int)} (h : TabM.get l s = none) : pair (TabM.was l s) (TabM.is l s) = .tuple #[.int .i64 0, .bool false] := by
  unfold TabM.was TabM.is pair; rw [h]; rfl
theorem pair_some {s : List UInt8} {l : List (List UInt8 × Int)} {n : Int} (h : TabM.get l s = some n) : pair (TabM.was l s) (TabM.is l s) = .tuple #[.int .i64 n, .bool true] := by
  unfold TabM.was TabM.is pair; rw [h]; rfl
/-- What At says, laid open. -/
structure Spot (w : World) (q : Nat) (T : Tb) (s : List UInt8) (b : Bool) (B : Nat) (cs : List (List Nd)) (j : Nat) (pre : List Nd) (x : Nd) (post : List Nd) (lb lo : Nat) : Prop where
  of : Of T b B cs
  lt : j < cs.length
  ch : chainAt cs j = pre ++ x :: post
  name : x.s = s
  link : linkAt ⟨B, j, none⟩ pre = ⟨lb, lo, none⟩
  chain : Chain w ⟨B, j, none⟩ (pre ++ x :: post)
  at_ : w.cell? ⟨lb, lo, none⟩ = some (.pointer (some ⟨x.b, 0, none⟩))
  nd : NdAt w x (hd post)
  free : w.frozen? ⟨lb, lo, none⟩ = false
  lq : lb ≠ q
  xq : x.b ≠ q
  mem : x ∈ nodes T
  slot : j = sl cs s
theorem spot_of (l : Lies w q T1) (ok : Ok q T1) (f : Fits T1) {s : List UInt8} {v : Value} (h : At T1 s v) : ∃ b B cs j pre x post lb lo, v = .pointer (some ⟨lb, lo, none⟩) ∧ Spot w q T1 s b B cs j pre x post lb lo := by
  obtain ⟨b, B, cs, pre, x, post, o, c, e, ev⟩ := h
  have lt : sl cs s < cs.length := slotOf_lt _ _ (o.pos f).1
  have ch := (o.arr l).at_ lt
  rw [c] at ch
  have ln := ch.link
  have mx : ∀ y ∈ pre ++ x :: post, y ∈ nodes T1 := fun y hy => o.mem (flat_mem (j := sl cs s) (by rw [c]; exact hy))
  have xm : x ∈ nodes T1 := mx x (by simp)
  obtain ⟨lb, lo, el, eq⟩ : ∃ lb lo, linkAt ⟨B, sl cs s, none⟩ pre = ⟨lb, lo, none⟩ ∧ lb ≠ q := by
    rcases linkAt_is ⟨B, sl cs s, none⟩ pre with k | ⟨y, hy, k⟩
    · exact ⟨_, _, k, o.B_q ok⟩
    · exact ⟨_, _, k, ok.node_q (mx y (List.mem_append_left _ hy))⟩
  refine ⟨b, B, cs, sl cs s, pre, x, post, lb, lo, by rw [ev, el], o, lt, c, e, el, ch, ?_, ln.seg.1, ?_, eq, ok.node_q xm, xm, rfl⟩
  · rw [← el]; exact ln.at_
  · rw [← el]; exact ln.free
/-- The relation behind a call that turned nothing but what moved. -/
theorem Tab.after (h : Tab w q T M) {w' : World} (l : Lies w' q T1) (mv : Mv q T T1) : Tab w' q T1 M :=
  ⟨l, mv.ok, (h.moved mv).1.num, (h.moved mv).2.2, mv.work⟩
theorem get_any (h : Tab w q T M) (s : ByteArray) (hs : s.size ≤ 64) :
    Calls Try.prog 19 #[.pointer (some ⟨q, 0, none⟩), .string s] w fun e w' => e = .returned (pair (TabM.was M.l s.data.toList) (TabM.is M.l s.data.toList)) ∧ ∃ T1, Tab w' q T1 M ∧ callsLeft T1 ≤ callsLeft T - 1 ∧ (∀ k ∈ blocks q T1, k ∈ blocks q T) ∧ Only (fun k => k ∈ blocks q T) w w' := by
  have H := Lib.hid h
  have hs' : Hid (s.size ≤ 64) := hs
  clear h hs
  go_enter Try.func19, Try.ntmps19
  go_wp2_with fail
  go_at_call 28
  refine (seek_any H.out s hs'.out).mono ?_
  rintro e w1 ⟨T1, l1, mv, o1, hr⟩
  have H1 := Lib.hid (And.intro l1 (And.intro mv o1))
  clear l1 mv o1
  rcases hr with ⟨rfl, g⟩ | ⟨v, rfl, at_⟩
  · have P := Lib.hid (pair_none (not_there (H.out.moved H1.out.2.1).2.2 g))
    clear g
    go_wp2_with fail
    go_ret2
    exact ⟨by rw [P.out]; rfl, T1, H.out.after H1.out.1 H1.out.2.1, (H.out.moved H1.out.2.1).2.1, H1.out.2.1.sub, H1.out.2.2⟩
  · obtain ⟨b, B, cs, j, pre, x, post, lb, lo, rfl, sp⟩ := spot_of H1.out.1 H1.out.2.1.ok (H.out.moved H1.out.2.1).1.num.fits.1 at_
    have g := is_there (H.out.moved H1.out.2.1).2.2 H1.out.2.1.ok sp.mem
    rw [sp.name] at g
    have P := Lib.hid (pair_some g)
    have k1 := sp.at_
    have k2 := sp.nd.num
    clear g at_ sp
    go_wp2_with fail
    go_ret2
    exact ⟨by rw [P.out]; rfl, T1, H.out.after H1.out.1 H1.out.2.1, (H.out.moved H1.out.2.1).2.1, H1.out.2.1.sub, H1.out.2.2⟩
theorem get_nil (w : World) (s : ByteArray) : Calls Try.prog 19 #[.pointer none, .string s] w fun e w' => e = .returned (pair 0 false) ∧ w' = w := by
  go_enter Try.func19, Try.ntmps19
  go_wp2_with fail
  go_at_call 28
  refine (seek_nil w s).mono ?_
  rintro e w1 ⟨rfl, rfl⟩
  go_wp2_with fail
  go_ret2
  exact ⟨rfl, rfl⟩
theorem del_nil (w : World) (s : ByteArray) : Calls Try.prog 20 #[.pointer none, .string s] w fun e w' => e = .returned (pair 0 false) ∧ w' = w := by
  go_enter Try.func20, Try.ntmps20
  go_wp2_with fail
  go_at_call 28
  refine (seek_nil w s).mono ?_
  rintro e w1 ⟨rfl, rfl⟩
  go_wp2_with fail
  go_ret2
  exact ⟨rfl, rfl⟩
theorem put_nil (w : World) (s : ByteArray) (n : Int) : Calls Try.prog 17 #[.pointer none, .string s, .int .i64 n] w fun e w' => e = .returned (pair 0 false) ∧ w' = w := by
  go_enter Try.func17, Try.ntmps17
  go_wp2_with fail
  go_ret2
  exact ⟨rfl, rfl⟩
end
end Go.Proofs.Ytedpanfdkdbblaa
