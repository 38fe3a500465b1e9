/- Package table: what Put and Del do. -/
import Derived.Test.YtedpanfdkdbblaaTbPut
namespace Go.Proofs.Ytedpanfdkdbblaa
open Go.RowKit
set_option linter.unusedVariables false
theorem add_flat {T : Tb} {x : Nd} (f : Fits T) : (addTo T x).c.flatten.length = if (sizeOf2 T).isSome then T.c.flatten.length else T.c.flatten.length + 1 := by
  unfold addTo sizeOf2
  rcases e : T.two with _ | ⟨B, cs⟩
  · exact (flat_push x (slotOf_lt _ _ f.k0)).length_eq
  · rfl
section
variable {w w1 w2 : World} {q H : Nat} {T T1 T2 : Tb} {M : TabM.T} {s : List UInt8} {x : Nd}
/-- A new name taken in: the relation. -/
theorem Tab.added (h : Tab w q T M) (mv : Mv q T T1) (hx : x.s = s) (hm : M.l.length ≤ 1000) (hn : ∀ y ∈ nodes T1, y.s ≠ s) (l2 : Lies w2 q T2) (ft : Fitted q H { addTo T1 x with count := T1.count + 1 } T2) : Tab w2 q T2 (TabM.put M s x.n) := by
  obtain ⟨md, -, pm⟩ := h.moved mv
  have fi := md.num.fits.1
  obtain ⟨a2, ac, aw, an, -⟩ := add_two (T := T1) (x := x)
  have len := h.len
  have cnt := mv.count
  have put : TabM.put M s x.n = ⟨M.l ++ [(s, x.n)], max (if M.l = [] then 0 else M.great) (M.l.length + 1)⟩ := by
    unfold TabM.put
    rw [not_there pm hn]
  rw [put]
  refine ⟨l2, ft.ok, ?_, ?_, ?_⟩
  · have pre := md.put (r' := (addTo T1 x).c.flatten.length) (g' := max (if M.l = [] then 0 else M.great) (M.l.length + 1)) (by omega) (add_flat fi) (by
      rw [len, ← cnt]
      have : (M.l = []) ↔ T1.count = 0 := by rw [← List.length_eq_zero_iff, len, cnt]
      by_cases k : T1.count = 0
      · rw [if_pos (this.2 k), if_pos k]
      · rw [if_neg (fun e => k (this.1 e)), if_neg k])
    have nm := pre.fit
    rw [ft.c, ft.two, ft.count]
    show Num (addTo T1 x).c.length (fitted (addTo T1 x).c.length (sizeOf2 { addTo T1 x with count := T1.count + 1 }) (T1.count + 1)) _ (T1.count + 1) _
    rw [ac, a2]
    exact nm
  · rw [ft.nodes]
    show (pairs (nodes (addTo T1 x))).Perm (M.l ++ [(s, x.n)])
    have p := ((add_perm (x := x) fi).1.map fun y : Nd => (y.s, y.n))
    refine p.trans ?_
    rw [List.map_cons, hx]
    exact (pm.cons _).trans (List.perm_append_singleton _ _).symm
  · rw [ft.work]
    show (addTo T1 x).work ≤ 8
    rw [aw]; exact mv.work
/-- A number turned: the relation. -/
theorem Tab.turned (h : Tab w q T M) (mv : Mv q T T1) (hx : x.s = s) (hm : x ∈ nodes T1) (n : Int) (l2 : Lies w2 q T2) (ok2 : Ok q T2) (hp : pairs (nodes T2) = (pairs (nodes T1)).map fun a => if a.1 = x.s then (x.s, n) else a) (e1 : T2.c.length = T1.c.length) (e2 : sizeOf2 T2 = sizeOf2 T1) (e3 : T2.c.flatten.length = T1.c.flatten.length) (e4 : T2.count = T1.count) (e5 : T2.work = T1.work) :
    Tab w2 q T2 (TabM.put M s n) := by
  obtain ⟨md, -, pm⟩ := h.moved mv
  have g := is_there pm mv.ok hm
  rw [hx] at g
  have put : TabM.put M s n = { M with l := M.l.map fun a => if a.1 = s then (s, n) else a } := by
    unfold TabM.put
    rw [g]
  rw [put]
  refine ⟨l2, ok2, ?_, ?_, by rw [e5]; exact mv.work⟩
  · rw [e1, e2, e3, e4]; exact md.num
  · rw [hp, hx]; exact pm.map _
/-- An entry taken out: the relation. -/
theorem Tab.taken {T3 : Tb} (h : Tab w q T M) (mv : Mv q T T1) (hx : x.s = s) (l3 : Lies w2 q T3) (hp : pairs (nodes T2) = (pairs (nodes T1)).filter fun a => a.1 != x.s) (ok2 : Ok q T2) (e1 : T2.c.length = T1.c.length) (e2 : sizeOf2 T2 = sizeOf2 T1) (e3 : T2.c.flatten.length ≤ T1.c.flatten.length) (e3' : T1.two = none → T2.c.flatten.length + 1 = T1.c.flatten.length)
    (e4 : T2.count = T1.count - 1) (e4' : 1 ≤ T1.count) (e5 : T2.work = T1.work) (ft : Fitted q H T2 T3) : Tab w2 q T3 (TabM.del M s) := by
  obtain ⟨md, -, pm⟩ := h.moved mv
  have pre := md.del (r' := T2.c.flatten.length) e4' e3 (fun e => e3' (by
    rcases k : T1.two with _ | o
    · rfl
    · unfold sizeOf2 at e; rw [k] at e; cases e)) (by
    have := flat_le T2
    rw [← ok2.cnt, e4] at this
    exact this)
  have nm := pre.fit
  refine ⟨l3, ft.ok, ?_, ?_, by rw [ft.work, e5]; exact mv.work⟩
  · rw [ft.c, ft.two, ft.count, e1, e2, e4]; exact nm
  · rw [ft.nodes, hp, hx]
    exact pm.filter _
end
set_option maxRecDepth 20000 in
set_option maxHeartbeats 2000000 in
theorem put_any {w : World} {q : Nat} {T : Tb} {M : TabM.T} (h : Tab w q T M) (s : ByteArray) (n : Int) (hs : s.size ≤ 64) (hm : M.l.length ≤ 1000) :
    Calls Try.prog 17 #[.pointer (some ⟨q, 0, none⟩), .string s, .int .i64 n] w fun e w' => e = .returned (pair (TabM.was M.l s.data.toList) (TabM.is M.l s.data.toList)) ∧ ∃ T2, Tab w' q T2 (TabM.put M s.data.toList n) ∧ (∀ k ∈ blocks q T2, k ∈ blocks q T ∨ w.heap.size ≤ k) ∧ Only (fun k => k ∈ blocks q T) w w' := by
  have H := Lib.hid h
  have HS := Lib.hid (And.intro hs hm)
  clear h hs hm
  go_enter Try.func17, Try.ntmps17
  go_wp2_with fail
  go_at_call 28
  refine (seek_any H.out s HS.out.1).mono ?_
  rintro e w1 ⟨T1, l1, mv, o1, hr⟩
  have H1 := Lib.hid (And.intro l1 (And.intro mv o1))
  have N1 := Lib.hid (H.out.moved mv)
  clear l1 mv o1
  rcases hr with ⟨rfl, g⟩ | ⟨v, rfl, at_⟩
  · have G := Lib.hid g
    have P := Lib.hid (pair_none (not_there N1.out.2.2 g))
    clear g
    go_wp2_with fail
    go_at_call 29
    refine (add_any w1 q T1 H1.out.1 H1.out.2.1.ok N1.out.1.num.fits.1 N1.out.1.num.fits.2.1 (by have := N1.out.1.num.fits.2.2; omega) s HS.out.1 n G.out).mono ?_
    rintro e w2 ⟨rfl, x, T2, hx, hn, l2, ft, o2, sb⟩
    have H2 := Lib.hid (And.intro hx (And.intro hn (And.intro l2 (And.intro ft (And.intro o2 sb)))))
    clear hx hn l2 ft o2 sb
    go_wp2_with fail
    go_ret2
    refine ⟨by rw [P.out]; rfl, T2, ?_, fun k hk => ?_, ?_⟩
    · rw [← H2.out.2.1]
      exact H.out.added H1.out.2.1 H2.out.1 HS.out.2 G.out H2.out.2.2.1 H2.out.2.2.2.1
    · rcases H2.out.2.2.2.2.2 k hk with z | z
      · exact .inl (H1.out.2.1.sub k z)
      · exact .inr (Nat.le_trans H1.out.2.2.size z)
    · exact H1.out.2.2.trans H2.out.2.2.2.2.1 fun k hk => .inl (H1.out.2.1.sub k hk)
  · obtain ⟨b, B, cs, j, pre, x, post, lb, lo, rfl, sp⟩ := spot_of H1.out.1 H1.out.2.1.ok N1.out.1.num.fits.1 at_
    have g := is_there N1.out.2.2 H1.out.2.1.ok sp.mem
    rw [sp.name] at g
    have P := Lib.hid (pair_some g)
    have k1 := sp.at_
    have k2 := sp.nd.num
    have k3 := sp.nd.free 1
    have SP := Lib.hid sp
    clear g at_ sp
    go_wp2_with fail
    go_ret2
    obtain ⟨T2, l2, ok2, hp, e1, e2, e3, e4, e5, e6⟩ := SP.out.put H1.out.1 H1.out.2.1.ok n
    refine ⟨by rw [P.out]; rfl, T2, H.out.turned H1.out.2.1 SP.out.name SP.out.mem n l2 ok2 hp e1 e2 e3 e4 e5, fun k hk => .inl (H1.out.2.1.sub k (by rw [← e6]; exact hk)), ?_⟩
    refine H1.out.2.2.trans ((Only.refl (fun k => k ∈ blocks q T1) w1).setCell (.inl ?_) _) fun k hk => .inl (H1.out.2.1.sub k hk)
    exact List.mem_cons_of_mem _ (List.mem_cons_of_mem _ (List.mem_append_right _ (List.mem_map.2 ⟨x, SP.out.mem, rfl⟩)))
set_option maxRecDepth 20000 in
set_option maxHeartbeats 2000000 in
theorem del_any {w : World} {q : Nat} {T : Tb} {M : TabM.T} (h : Tab w q T M) (s : ByteArray) (hs : s.size ≤ 64) :
    Calls Try.prog 20 #[.pointer (some ⟨q, 0, none⟩), .string s] w fun e w' => e = .returned (pair (TabM.was M.l s.data.toList) (TabM.is M.l s.data.toList)) ∧ ∃ T2, Tab w' q T2 (TabM.del M s.data.toList) ∧ (∀ k ∈ blocks q T2, k ∈ blocks q T ∨ w.heap.size ≤ k) ∧ Only (fun k => k ∈ blocks q T) w w' := by
  have H := Lib.hid h
  have HS := Lib.hid hs
  clear h hs
  go_enter Try.func20, Try.ntmps20
  go_wp2_with fail
  go_at_call 28
  refine (seek_any H.out s HS.out).mono ?_
  rintro e w1 ⟨T1, l1, mv, o1, hr⟩
  have H1 := Lib.hid (And.intro l1 (And.intro mv o1))
  have N1 := Lib.hid (H.out.moved mv)
  clear l1 mv o1
  rcases hr with ⟨rfl, g⟩ | ⟨v, rfl, at_⟩
  · have G := Lib.hid g
    have P := Lib.hid (pair_none (not_there N1.out.2.2 g))
    clear g
    go_wp2_with fail
    go_ret2
    have ed : TabM.del M s.data.toList = M := by
      unfold TabM.del
      have : M.l.filter (fun a => a.1 != s.data.toList) = M.l := List.filter_eq_self.2 fun a ha => by
        obtain ⟨y, hy, rfl⟩ := List.mem_map.1 (N1.out.2.2.mem_iff.2 ha)
        simpa using G.out y hy
      rw [this]
    exact ⟨by rw [P.out]; rfl, T1, by rw [ed]; exact H.out.after H1.out.1 H1.out.2.1, fun k hk => .inl (H1.out.2.1.sub k hk), H1.out.2.2⟩
  · obtain ⟨b, B, cs, j, pre, x, post, lb, lo, rfl, sp⟩ := spot_of H1.out.1 H1.out.2.1.ok N1.out.1.num.fits.1 at_
    have g := is_there N1.out.2.2 H1.out.2.1.ok sp.mem
    rw [sp.name] at g
    have P := Lib.hid (pair_some g)
    obtain ⟨o, ho⟩ := hd_ptr post
    have k1 := sp.at_
    have k2 := sp.nd.num
    have k3 := sp.nd.next
    have k4 := sp.free
    rw [ho] at k3
    have k5 := H1.out.1.head.count
    have k6 := H1.out.1.head.free 3
    have lq := sp.lq
    have ql := Ne.symm sp.lq
    have SP := Lib.hid sp
    have D := Lib.hid (sp.del H1.out.1 H1.out.2.1.ok)
    rw [ho] at D
    have c9 := N1.out.1.num.fits.2.2
    obtain ⟨cn, hcn⟩ : ∃ c, T1.count = c := ⟨_, rfl⟩
    have c1 : 1 ≤ cn := by
      obtain ⟨T2, -, -, -, -, -, -, -, -, c, -⟩ := D.out
      rw [← hcn]; exact c
    rw [hcn] at k5 c9 D
    have HC := Lib.hid hcn
    have cn0 : (1 : Int) ≤ (cn : Int) := by omega
    have cn9 : (cn : Int) ≤ 1001 := by omega
    clear g at_ sp ho hcn
    go_wp2_with fail
    go_at_call 30
    obtain ⟨T2, l2, ok2, hp, e1, e2, e3, e3', e4, e4', e5, sb, o2⟩ := D.out
    have f2 : Fits T2 := by
      have f1 := N1.out.1.num.fits.1
      refine ⟨by rw [e1]; exact f1.k0, by rw [e1]; exact f1.k9, fun B cs e => ?_, fun B cs e => ?_, by rw [e4]; omega⟩
      · have := size2_some e
        rw [e2] at this
        have := pow_pos8 (N1.out.1.mv _ this).1
        omega
      · have := size2_some e
        rw [e2] at this
        have := N1.out.1.num.small.2 _ this
        omega
    refine (fit_any _ q T2 l2 ok2 f2 (by rw [e1]; exact N1.out.1.num.fits.2.1)).mono ?_
    rintro e w3 ⟨rfl, T3, l3, ft, o3⟩
    have R := Lib.hid (And.intro (H.out.taken H1.out.2.1 SP.out.name l3 hp ok2 e1 e2 e3 e3' (by rw [e4, HC.out]) (by rw [HC.out]; exact e4') e5 ft) (And.intro (fun k (hk : k ∈ blocks q T3) => (show k ∈ blocks q T ∨ w.heap.size ≤ k from by
      rcases ft.sub k hk with z | z
      · exact .inl (H1.out.2.1.sub k (sb k z))
      · exact .inr (Nat.le_trans (Nat.le_trans H1.out.2.2.size o2.size) z))) ((H1.out.2.2.trans o2 fun k hk => .inl (H1.out.2.1.sub k hk)).trans o3 fun k hk => .inl (H1.out.2.1.sub k (sb k hk)))))
    clear l2 ok2 hp e1 e2 e3 e3' e4 e4' e5 sb o2 f2 l3 ft o3 D
    go_wp2_with fail
    go_ret2
    exact ⟨by rw [P.out]; rfl, T3, R.out.1, R.out.2.1, R.out.2.2⟩
end Go.Proofs.Ytedpanfdkdbblaa
