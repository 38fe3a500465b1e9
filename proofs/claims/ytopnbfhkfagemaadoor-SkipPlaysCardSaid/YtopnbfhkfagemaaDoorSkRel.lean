/- Package skip: a set in memory; the calls that look at the map alone. -/
import Derived.Test.YtopnbfhkfagemaaDoorSkInsN
namespace Go.Proofs.YtopnbfhkfagemaaDoor
open Go.RowKit
set_option linter.unusedVariables false
/-- How long a name may be. -/
def lim : Nat := 281474976710656
theorem lim_le : lim ≤ maxLen := by decide
/-- A set's own three cells. -/
structure Head (w : World) (q : Nat) (fp : Option Addr) (mo : Option Nat) : Prop where
  front : w.cell? ⟨q, 0, none⟩ = some (.pointer fp)
  scores : w.cell? ⟨q, 1, none⟩ = some (.map mo)
  added : ∃ n, w.cell? ⟨q, 2, none⟩ = some (.int .u64 n)
  free : ∀ i, w.frozen? ⟨q, i, none⟩ = false
theorem Head.lt {w : World} {q : Nat} {fp : Option Addr} {mo : Option Nat} (h : Head w q fp mo) : q < w.heap.size := cell_in h.front
theorem Head.same {w w' : World} {q : Nat} {fp : Option Addr} {mo : Option Nat} (h : Head w q fp mo) (k : w'.heap[q]? = w.heap[q]?) : Head w' q fp mo := by
  obtain ⟨n, hn⟩ := h.added
  exact ⟨(World.cell?_of_block k).trans h.front, (World.cell?_of_block k).trans h.scores, ⟨n, (World.cell?_of_block k).trans hn⟩, fun i => (World.frozen?_of_block k).trans (h.free i)⟩
/-- The set's state: none yet (no Put yet), or the blocks of the front and of the map, and the names. -/
inductive St (w : World) (q : Nat) : Option (Nat × Nat) → List Nd → Prop
  | fresh (h : Head w q none none) : St w q none []
  | some {F m : Nat} {ns : List Nd} (h : Head w q (some ⟨F, 0, none⟩) (some m)) (b : Body w F ns) (s : Scores w (some m) (ns.map Nd.e)) (a : Apt q F m ns) : St w q (some (F, m)) ns
def blocks (q : Nat) : Option (Nat × Nat) → List Nd → List Nat
  | none, _ => [q]
  | some (F, m), ns => q :: F :: m :: (ns.map Nd.b ++ ns.map Nd.L)
/-- A set that reads as the list l, in the blocks of G alone. -/
structure SkRel (w : World) (G : Nat → Prop) (p : Addr) (l : List SkM.E) : Prop where
  st : ∃ q o ns, p = ⟨q, 0, none⟩ ∧ St w q o ns ∧ ns.map Nd.e = l ∧ ∀ k ∈ blocks q o ns, G k
  ok : SkM.Ok l
  len : l.length ≤ 1000
  names : ∀ y ∈ l, y.1.length ≤ lim
theorem St.lt {w : World} {q : Nat} {o : Option (Nat × Nat)} {ns : List Nd} (h : St w q o ns) : ∀ k ∈ blocks q o ns, k < w.heap.size := by
  cases h with
  | fresh h => intro k hk; rw [List.mem_singleton.1 hk]; exact h.lt
  | some h b s a =>
    intro k hk
    rcases List.mem_cons.1 hk with rfl | hk
    · exact h.lt
    rcases List.mem_cons.1 hk with rfl | hk
    · exact b.ltF
    rcases List.mem_cons.1 hk with rfl | hk
    · exact s.lt
    rcases List.mem_append.1 hk with hk | hk
    · obtain ⟨y, hy, rfl⟩ := List.mem_map.1 hk; exact (b.nds y hy).lt
    · obtain ⟨y, hy, rfl⟩ := List.mem_map.1 hk; exact (b.nds y hy).ltL
theorem St.same {w w' : World} {q : Nat} {o : Option (Nat × Nat)} {ns : List Nd} (h : St w q o ns) (k : ∀ b ∈ blocks q o ns, w'.heap[b]? = w.heap[b]?) (hs : w.heap.size ≤ w'.heap.size) : St w' q o ns := by
  cases h with
  | fresh h => exact .fresh (h.same (k q List.mem_cons_self))
  | @some F m ns h b s a =>
    have kb : ∀ x ∈ ns, w'.heap[x.b]? = w.heap[x.b]? ∧ w'.heap[x.L]? = w.heap[x.L]? := fun x hx => ⟨k _ (List.mem_cons_of_mem _ (List.mem_cons_of_mem _ (List.mem_cons_of_mem _ (List.mem_append_left _ (List.mem_map.2 ⟨x, hx, rfl⟩))))), k _ (List.mem_cons_of_mem _ (List.mem_cons_of_mem _ (List.mem_cons_of_mem _ (List.mem_append_right _ (List.mem_map.2 ⟨x, hx, rfl⟩)))))⟩
    exact .some (h.same (k q List.mem_cons_self)) (b.same (k _ (List.mem_cons_of_mem _ List.mem_cons_self)) kb hs) (s.same fun b e => by injection e with e; subst e; exact k _ (List.mem_cons_of_mem _ (List.mem_cons_of_mem _ List.mem_cons_self))) a
theorem SkRel.same {w w' : World} {G : Nat → Prop} {p : Addr} {l : List SkM.E} (h : SkRel w G p l) (k : ∀ b, G b → b < w.heap.size → w'.heap[b]? = w.heap[b]?) (hs : w.heap.size ≤ w'.heap.size) : SkRel w' G p l := by
  obtain ⟨⟨q, o, ns, e, st, el, g⟩, ok, len, nm⟩ := h
  exact ⟨⟨q, o, ns, e, st.same (fun b hb => k b (g b hb) (st.lt b hb)) hs, el, g⟩, ok, len, nm⟩
theorem SkRel.below {w w' : World} {G : Nat → Prop} {p : Addr} {l : List SkM.E} (h : SkRel w G p l) (hb : Below w.heap.size w w') : SkRel w' G p l := h.same (fun b _ k => hb.block b k) hb.size
theorem SkRel.tight {w : World} {G : Nat → Prop} {p : Addr} {l : List SkM.E} (h : SkRel w G p l) : SkRel w (fun k => G k ∧ k < w.heap.size) p l := by
  obtain ⟨⟨q, o, ns, e, st, el, g⟩, ok, len, nm⟩ := h
  exact ⟨⟨q, o, ns, e, st, el, fun k hk => ⟨g k hk, st.lt k hk⟩⟩, ok, len, nm⟩
/-- What the map of a set tells. -/
theorem St.look {w : World} {q : Nat} {o : Option (Nat × Nat)} {ns : List Nd} (h : St w q o ns) : ∃ fp mo, Head w q fp mo ∧ Scores w mo (ns.map Nd.e) := by
  cases h with
  | fresh h => exact ⟨_, _, h, scores_nil w⟩
  | some h b s a => exact ⟨_, _, h, s⟩
section
variable {w : World} {q : Nat} {o : Option (Nat × Nat)} {ns : List Nd}
theorem len_any (h : St w q o ns) : Calls Tryd.prog 14 #[.pointer (some ⟨q, 0, none⟩)] w fun e w' => e = .returned (.int .i64 (ns.length : Int)) ∧ w' = w := by
  obtain ⟨fp, mo, hh, hs⟩ := h.look
  have c1 := hh.scores
  have hl : ∀ ty, (Builtin.len_ #[58] ty #[.map mo]).run Tryd.prog w = .ok (.int .i64 (ns.length : Int)) w := fun ty => by
    have := hs.len ty
    rw [List.length_map] at this
    exact this
  clear hh hs h
  go_enter Tryd.func14, Tryd.ntmps14
  go_wp2_with fail
  go_ret
  exact ⟨rfl, rfl⟩
theorem score_any (h : St w q o ns) (s : ByteArray) (hsz : s.size ≤ maxLen) : Calls Tryd.prog 19 #[.pointer (some ⟨q, 0, none⟩), .string s] w fun e w' => e = .returned (.tuple #[.int .i64 ((SkM.get (ns.map Nd.e) s.data.toList).getD 0), .bool (SkM.get (ns.map Nd.e) s.data.toList).isSome]) ∧ w' = w := by
  obtain ⟨fp, mo, hh, hs⟩ := h.look
  have c1 := hh.scores
  have hl := hs.look s hsz
  obtain ⟨a, ha⟩ : ∃ a, (SkM.get (ns.map Nd.e) s.data.toList).getD 0 = a := ⟨_, rfl⟩
  obtain ⟨b, hb⟩ : ∃ b, (SkM.get (ns.map Nd.e) s.data.toList).isSome = b := ⟨_, rfl⟩
  rw [ha, hb] at hl ⊢
  clear hh hs h ha hb
  go_enter Tryd.func19, Tryd.ntmps19
  go_wp2_with fail
  go_ret2
  exact ⟨rfl, rfl⟩
theorem from_any (h : St w q o ns) (hn : ns.length ≤ 1000) (r : Int) (r0 : -9223372036854775808 ≤ r) (r1 : r ≤ 9223372036854775807) : Calls Tryd.prog 34 #[.pointer (some ⟨q, 0, none⟩), .int .i64 r] w fun e w' => e = .returned (.int .i64 (if r < 0 then (ns.length : Int) + r else r)) ∧ w' = w := by
  have LN := Lib.hid (len_any h)
  obtain ⟨n, hn'⟩ : ∃ n, ns.length = n := ⟨_, rfl⟩
  rw [hn'] at LN hn ⊢
  have n9 : (n : Int) ≤ 1000 := by omega
  have n0 : (0 : Int) ≤ (n : Int) := by omega
  clear h hn hn'
  by_cases hr : r < 0
  · rw [if_pos hr]
    go_enter Tryd.func34, Tryd.ntmps34
    go_wp2_with (go_at_call 14; refine LN.out.mono ?_; rintro e w' ⟨rfl, rfl⟩)
    go_ret
    exact ⟨rfl, rfl⟩
  · rw [if_neg hr]
    have hr2 : 0 ≤ r := by omega
    clear hr
    go_enter Tryd.func34, Tryd.ntmps34
    go_wp2_with fail
    go_ret
    exact ⟨rfl, rfl⟩
end
theorem new_any (w : World) : Calls Tryd.prog 22 #[] w fun e w' => e = .returned (.pointer (some ⟨w.heap.size, 0, none⟩)) ∧ SkRel w' (fun k => k = w.heap.size) ⟨w.heap.size, 0, none⟩ [] ∧ Below w.heap.size w w' := by
  have hr : SkRel (w.alloc (.cells #[.pointer none, .map none, .int .u64 0] 61)) (fun k => k = w.heap.size) ⟨w.heap.size, 0, none⟩ [] :=
    ⟨⟨w.heap.size, none, [], rfl, .fresh ⟨by rw [World.cell?_alloc_new]; rfl, by rw [World.cell?_alloc_new]; rfl, ⟨0, by rw [World.cell?_alloc_new]; rfl⟩, fun i => World.frozen?_alloc_new _ _ _ _⟩, rfl, fun k hk => List.mem_singleton.1 hk⟩, ⟨List.Pairwise.nil, List.nodup_nil⟩, Nat.zero_le _, fun y hy => (nomatch hy)⟩
  have HR := Lib.hid hr
  clear hr
  go_enter Tryd.func22, Tryd.ntmps22
  go_wp2_with fail
  go_ret
  exact ⟨rfl, HR.out, (Below.refl _ w).alloc (Nat.le_refl _) _⟩
end Go.Proofs.YtopnbfhkfagemaaDoor
