/- Package table: Put and Del: what they turn. -/
import Derived.Test.YtedpanfdkdbblaaTbCalls
namespace Go.Proofs.Ytedpanfdkdbblaa
open Go.RowKit
set_option linter.unusedVariables false
section
variable {w : World} {q : Nat} {T T1 : Tb} {M : TabM.T} {s : List UInt8} {b : Bool} {B : Nat} {cs : List (List Nd)} {j : Nat} {pre : List Nd} {x : Nd} {post : List Nd} {lb lo : Nat}
theorem Spot.split (h : Spot w q T s b B cs j pre x post lb lo) (ok : Ok q T) : ∃ L R, nodes T = L ++ x :: R ∧ (∀ ms, nodes (setc T b B cs j (pre ++ ms ++ post)) = L ++ ms ++ R) ∧ (∀ y ∈ L ++ R, y.s ≠ x.s) := by
  obtain ⟨X, Y, h1, h2⟩ := setc_nodes h.of h.lt
  refine ⟨X ++ pre, post ++ Y, by rw [h1, h.ch]; simp, fun ms => by rw [h2]; simp, fun y hy e => ?_⟩
  have nn := ok.names
  rw [h1, h.ch] at nn
  have e1 : X ++ (pre ++ x :: post) ++ Y = (X ++ pre) ++ x :: (post ++ Y) := by simp
  rw [e1, (List.perm_middle.map Nd.s).nodup_iff, List.map_cons, List.nodup_cons] at nn
  exact nn.1 (List.mem_map.2 ⟨y, hy, e⟩)
theorem Spot.apart (h : Spot w q T s b B cs j pre x post lb lo) (ok : Ok q T) : ((pre ++ x :: post).map Nd.b).Nodup ∧ ∀ y ∈ pre ++ x :: post, y.b ≠ B := by
  obtain ⟨X, Y, h1, -⟩ := setc_nodes h.of h.lt
  have nn := ok.nodup
  rw [h1, h.ch, List.map_append, List.map_append] at nn
  refine ⟨(List.nodup_append.1 (List.nodup_append.1 nn).1).2.1, fun y hy => h.of.node_B ok (h.of.mem (flat_mem (j := j) (by rw [h.ch]; exact hy)))⟩
theorem put_pairs {L R : List Nd} (hn : ∀ y ∈ L ++ R, y.s ≠ x.s) (n : Int) : pairs (L ++ [⟨x.b, x.s, n⟩] ++ R) = (pairs (L ++ x :: R)).map fun a => if a.1 = x.s then (x.s, n) else a := by
  unfold pairs
  simp only [List.map_append, List.map_cons, List.map_map, if_true, List.append_assoc, List.cons_append, List.nil_append]
  have side : ∀ l : List Nd, (∀ y ∈ l, y.s ≠ x.s) → l.map (fun x => (x.s, x.n)) = l.map ((fun a : List UInt8 × Int => if a.1 = x.s then (x.s, n) else a) ∘ fun x => (x.s, x.n)) := fun l hl => List.map_congr_left fun y hy => by
    show _ = if y.s = x.s then _ else _
    rw [if_neg (hl y hy)]
  rw [side L fun y hy => hn y (List.mem_append_left _ hy), side R fun y hy => hn y (List.mem_append_right _ hy)]
theorem del_pairs {L R : List Nd} (hn : ∀ y ∈ L ++ R, y.s ≠ x.s) : pairs (L ++ [] ++ R) = (pairs (L ++ x :: R)).filter fun a => a.1 != x.s := by
  unfold pairs
  have side : ∀ l : List Nd, (∀ y ∈ l, y.s ≠ x.s) → (l.map (fun x => (x.s, x.n))).filter (fun a => a.1 != x.s) = l.map (fun x => (x.s, x.n)) := fun l hl => List.filter_eq_self.2 fun a ha => by
    obtain ⟨y, hy, rfl⟩ := List.mem_map.1 ha
    simpa using hl y hy
  rw [List.append_nil, List.map_append, List.map_append, List.map_cons, List.filter_append, side L fun y hy => hn y (List.mem_append_left _ hy), List.filter_cons, if_neg (by simp), side R fun y hy => hn y (List.mem_append_right _ hy)]
/-- The number of an entry turned. -/
theorem Spot.put (h : Spot w q T s b B cs j pre x post lb lo) (l : Lies w q T) (ok : Ok q T) (n : Int) :
    ∃ T2, Lies (w.setCell ⟨x.b, 1, none⟩ (.int .i64 n)) q T2 ∧ Ok q T2 ∧ pairs (nodes T2) = ((pairs (nodes T)).map fun a => if a.1 = x.s then (x.s, n) else a) ∧ T2.c.length = T.c.length ∧ sizeOf2 T2 = sizeOf2 T ∧ T2.c.flatten.length = T.c.flatten.length ∧ T2.count = T.count ∧ T2.work = T.work ∧ blocks q T2 = blocks q T := by
  obtain ⟨L, R, h1, h2, h3⟩ := h.split ok
  obtain ⟨nd, nB⟩ := h.apart ok
  obtain ⟨e1, e2, e3, e4, e5, e6⟩ := setc_B2 (j := j) h.of (pre ++ [⟨x.b, x.s, n⟩] ++ post)
  have t : Turn (fun a => a = ⟨x.b, 1, none⟩) w (w.setCell ⟨x.b, 1, none⟩ (.int .i64 n)) := Turn.set (D := fun a => a = ⟨x.b, 1, none⟩) w rfl _
  rw [List.map_append, List.map_cons] at nd
  have nd1 := List.nodup_append.1 nd
  have ndx := List.nodup_cons.1 nd1.2.1
  have preb : ∀ y ∈ pre, y.b ≠ x.b := fun y hy e => nd1.2.2 y.b (List.mem_map.2 ⟨y, hy, rfl⟩) x.b (by simp) e
  have postb : ∀ y ∈ post, y.b ≠ x.b := fun y hy e => ndx.1 (List.mem_map.2 ⟨y, hy, e⟩)
  have lk := h.chain.link
  have la : ¬ linkAt ⟨B, j, none⟩ pre = ⟨x.b, 1, none⟩ := fun e => by
    rcases linkAt_is ⟨B, j, none⟩ pre with k | ⟨y, hy, k⟩
    · rw [k] at e; injection e with e _ _; exact nB x (by simp) e.symm
    · rw [k] at e; injection e with _ e _; cases e
  have ch : Chain (w.setCell ⟨x.b, 1, none⟩ (.int .i64 n)) ⟨B, j, none⟩ (pre ++ (⟨x.b, x.s, n⟩ :: post)) := by
    refine h.chain.turned t (fun c hc => .inr fun y hy e => ?_) (fun _ e => ?_) (fun y hy => nB y (List.mem_append_left _ hy)) nd1.1 ⟨?_, ⟨⟨?_, ?_, ?_, fun i => ?_, ?_⟩, ?_⟩, ?_, ?_⟩
    · subst hc; exact preb y hy e.symm
    · injection e with e _ _; exact nB x (by simp) e.symm
    · rw [t.cell _ lk.lt la, lk.at_]; rfl
    · rw [t.cell _ h.nd.lt (fun e => by injection e with _ e _; cases e), h.nd.name]
    · exact World.cell?_setCell_same _ _ _ h.nd.num
    · rw [t.cell _ h.nd.lt (fun e => by injection e with _ e _; cases e), h.nd.next]
    · rw [World.frozen?_setCell]; exact h.nd.free i
    · rw [World.size_setCell]; exact h.nd.lt
    · exact lk.seg.2.turn t fun y hy i e => by injection e with e _ _; exact postb y hy e
    · rw [t.frozen _ lk.lt, lk.free]
    · rw [World.size_setCell]; exact lk.lt
  have hns : pre ++ (⟨x.b, x.s, n⟩ :: post) = pre ++ [⟨x.b, x.s, n⟩] ++ post := by simp
  rw [hns] at ch
  have ll := l.setc ok h.of h.lt t (fun a ha => .inr ⟨x, by rw [h.ch]; simp, by rw [ha]⟩) ch
  have eb : ((pre ++ ([⟨x.b, x.s, n⟩] : List Nd) ++ post).map Nd.b) = (chainAt cs j).map Nd.b := by rw [h.ch]; simp
  have es : ((pre ++ ([⟨x.b, x.s, n⟩] : List Nd) ++ post).map Nd.s) = (chainAt cs j).map Nd.s := by rw [h.ch]; simp
  have eq : { setc T b B cs j (pre ++ [⟨x.b, x.s, n⟩] ++ post) with count := T.count } = setc T b B cs j (pre ++ [⟨x.b, x.s, n⟩] ++ post) := by
    unfold setc
    cases b <;> rfl
  have ok2 := ok.setc h.of h.lt (ns := pre ++ [⟨x.b, x.s, n⟩] ++ post) (k := T.count) (by rw [h.ch]; simp) (by rw [eb]; exact List.Sublist.refl _) (by rw [es]; exact List.Sublist.refl _) (by rw [h2, ok.cnt, h1]; simp)
  rw [eq] at ok2
  refine ⟨_, ll, ok2, by rw [h2, h1]; exact put_pairs h3 n, e3, e4, ?_, e5, e6, ?_⟩
  · cases b with
    | true =>
      obtain ⟨rfl, rfl⟩ := h.of
      show (T.c.set j _).flatten.length = T.c.flatten.length
      obtain ⟨A, C, f1, f2⟩ := flat_at h.lt
      rw [f1, f2, h.ch]
      simp
    | false => rfl
  · unfold blocks
    rw [e1, e2, h2, h1]
    simp
/-- An entry taken out. -/
theorem Spot.del (h : Spot w q T s b B cs j pre x post lb lo) (l : Lies w q T) (ok : Ok q T) :
    ∃ T2, Lies ((w.setCell ⟨lb, lo, none⟩ (hd post)).setCell ⟨q, 3, none⟩ (.int .i64 ((T.count : Int) - 1))) q T2 ∧ Ok q T2 ∧ pairs (nodes T2) = ((pairs (nodes T)).filter fun a => a.1 != x.s) ∧ T2.c.length = T.c.length ∧ sizeOf2 T2 = sizeOf2 T ∧ T2.c.flatten.length ≤ T.c.flatten.length ∧ (T.two = none → T2.c.flatten.length + 1 = T.c.flatten.length) ∧
      T2.count = T.count - 1 ∧ 1 ≤ T.count ∧ T2.work = T.work ∧ (∀ k ∈ blocks q T2, k ∈ blocks q T) ∧ Only (fun k => k ∈ blocks q T) w ((w.setCell ⟨lb, lo, none⟩ (hd post)).setCell ⟨q, 3, none⟩ (.int .i64 ((T.count : Int) - 1))) := by
  obtain ⟨L, R, h1, h2, h3⟩ := h.split ok
  obtain ⟨nd, nB⟩ := h.apart ok
  obtain ⟨e1, e2, e3, e4, e5, e6⟩ := setc_B2 (j := j) h.of (pre ++ [] ++ post)
  have t : Turn (fun a => a = ⟨lb, lo, none⟩) w (w.setCell ⟨lb, lo, none⟩ (hd post)) := Turn.set (D := fun a => a = ⟨lb, lo, none⟩) w rfl _
  rw [List.map_append, List.map_cons] at nd
  have nd1 := List.nodup_append.1 nd
  have ndx := List.nodup_cons.1 nd1.2.1
  have lk := h.chain.link
  rw [h.link] at lk
  have lkb : lb = B ∨ ∃ y ∈ pre, lb = y.b := by
    rcases linkAt_is ⟨B, j, none⟩ pre with k | ⟨y, hy, k⟩
    · rw [h.link] at k; injection k with k _ _; exact .inl k
    · rw [h.link] at k; injection k with k _ _; exact .inr ⟨y, hy, k⟩
  have postb : ∀ y ∈ post, y.b ≠ lb := fun y hy e => by
    rcases lkb with k | ⟨z, hz, k⟩
    · exact nB y (by simp [hy]) (e.trans k)
    · exact nd1.2.2 z.b (List.mem_map.2 ⟨z, hz, rfl⟩) y.b (by simp; exact .inr ⟨y, hy, rfl⟩) (by rw [e, k])
  have ch : Chain (w.setCell ⟨lb, lo, none⟩ (hd post)) ⟨B, j, none⟩ (pre ++ post) := by
    refine h.chain.turned t (fun c hc => .inl (by rw [hc, h.link])) (fun hp e => ?_) (fun y hy => nB y (List.mem_append_left _ hy)) nd1.1 ?_
    · rcases linkAt_is ⟨B, j, none⟩ pre with k | ⟨y, hy, k⟩
      · obtain ⟨y, r, rfl⟩ := List.exists_cons_of_ne_nil hp
        rcases linkAt_is ⟨y.b, 2, none⟩ r with k2 | ⟨z, hz, k2⟩
        · have : linkAt ⟨B, j, none⟩ (y :: r) = ⟨y.b, 2, none⟩ := k2
          rw [h.link, ← e] at this
          injection this with this _ _
          exact nB y (by simp) this.symm
        · have : linkAt ⟨B, j, none⟩ (y :: r) = ⟨z.b, 2, none⟩ := k2
          rw [h.link, ← e] at this
          injection this with this _ _
          exact nB z (by simp [hz]) this.symm
      · rw [h.link, ← e] at k
        injection k with k _ _
        exact nB y (by simp [hy]) k.symm
    · rw [h.link]
      exact ⟨World.cell?_setCell_same _ _ _ lk.at_, lk.seg.2.turn t fun y hy i e => by injection e with e _ _; exact postb y hy e, by rw [World.frozen?_setCell]; exact lk.free, by rw [World.size_setCell]; exact lk.lt⟩
  have hns : pre ++ post = pre ++ [] ++ post := by simp
  rw [hns] at ch
  have lbm : (⟨lb, lo, none⟩ : Addr) = ⟨B, j, none⟩ ∨ ∃ z ∈ chainAt cs j, lb = z.b := by
    rcases linkAt_is ⟨B, j, none⟩ pre with k | ⟨y, hy, k⟩
    · rw [h.link] at k; exact .inl k
    · rw [h.link] at k; injection k with k _ _; exact .inr ⟨y, by rw [h.ch]; exact List.mem_append_left _ hy, k⟩
  have ll := l.setc ok h.of h.lt t (fun a ha => by rw [ha]; exact lbm) ch
  have sub : (pre ++ [] ++ post).Sublist (chainAt cs j) := by rw [h.ch, List.append_nil]; exact (List.Sublist.refl pre).append (List.sublist_cons_self x post)
  have c1 : 1 ≤ T.count := by rw [ok.cnt]; exact List.length_pos_of_mem h.mem
  have ok2 := ok.setc h.of h.lt (ns := pre ++ [] ++ post) (k := T.count - 1) (by rw [h.ch]; simp) (sub.map _) (sub.map _) (by rw [h2, ok.cnt, h1]; simp)
  have t2 : Turn (fun a => a.block = q) (w.setCell ⟨lb, lo, none⟩ (hd post)) ((w.setCell ⟨lb, lo, none⟩ (hd post)).setCell ⟨q, 3, none⟩ (.int .i64 ((T.count : Int) - 1))) := Turn.set (D := fun a => a.block = q) (a := ⟨q, 3, none⟩) _ rfl _
  have hh := ll.head.setCount (T.count - 1)
  rw [show (((T.count - 1 : Nat)) : Int) = (T.count : Int) - 1 from by omega] at hh
  have inb : lb ∈ blocks q T := by
    rcases lbm with e | ⟨z, hz, e⟩
    · injection e with e _ _
      rw [e]
      cases b with
      | true => obtain ⟨rfl, rfl⟩ := h.of; exact List.mem_cons_of_mem _ List.mem_cons_self
      | false => exact List.mem_cons_of_mem _ (List.mem_cons_of_mem _ (List.mem_append_left _ (by rw [show T.two = some (B, cs) from h.of]; simp [B2s])))
    · rw [e]
      exact List.mem_cons_of_mem _ (List.mem_cons_of_mem _ (List.mem_append_right _ (List.mem_map.2 ⟨z, h.of.mem (flat_mem hz), rfl⟩)))
  refine ⟨_, ll.own2 ok2 t2 hh rfl rfl rfl, ok2, by show pairs (nodes (setc T b B cs j (pre ++ [] ++ post))) = _; rw [h2, h1]; exact del_pairs h3, e3, e4, ?_, ?_, rfl, c1, e6, fun k hk => ?_, ?_⟩
  · cases b with
    | true =>
      obtain ⟨rfl, rfl⟩ := h.of
      show (T.c.set j _).flatten.length ≤ T.c.flatten.length
      obtain ⟨A, C, f1, f2⟩ := flat_at h.lt
      rw [f1, f2, h.ch]
      simp
    | false => exact Nat.le_refl _
  · intro e
    cases b with
    | true =>
      obtain ⟨rfl, rfl⟩ := h.of
      show (T.c.set j _).flatten.length + 1 = T.c.flatten.length
      obtain ⟨A, C, f1, f2⟩ := flat_at h.lt
      rw [f1, f2, h.ch]
      simp
      omega
    | false =>
      have := h.of
      rw [show T.two = some (B, cs) from h.of] at e
      cases e
  · have hk : k ∈ q :: (setc T b B cs j (pre ++ [] ++ post)).B :: (B2s (setc T b B cs j (pre ++ [] ++ post)).two ++ (nodes (setc T b B cs j (pre ++ [] ++ post))).map Nd.b) := hk
    rw [e1, e2, h2] at hk
    unfold blocks
    rcases List.mem_cons.1 hk with e | hk
    · exact e ▸ List.mem_cons_self
    rcases List.mem_cons.1 hk with e | hk
    · exact e ▸ List.mem_cons_of_mem _ List.mem_cons_self
    rcases List.mem_append.1 hk with hk | hk
    · exact List.mem_cons_of_mem _ (List.mem_cons_of_mem _ (List.mem_append_left _ hk))
    · obtain ⟨y, hy, e⟩ := List.mem_map.1 hk
      refine List.mem_cons_of_mem _ (List.mem_cons_of_mem _ (List.mem_append_right _ (List.mem_map.2 ⟨y, ?_, e⟩)))
      rw [h1]
      rw [List.append_nil] at hy
      rcases List.mem_append.1 hy with a | a
      · exact List.mem_append_left _ a
      · exact List.mem_append_right _ (List.mem_cons_of_mem _ a)
  · refine (t.only (F := fun k => k ∈ blocks q T) fun a e => by rw [e]; exact inb).trans (t2.only (F := fun k => k ∈ blocks q T) fun a e => by rw [e]; exact List.mem_cons_self) fun k hk => .inl hk
end
end Go.Proofs.Ytedpanfdkdbblaa
