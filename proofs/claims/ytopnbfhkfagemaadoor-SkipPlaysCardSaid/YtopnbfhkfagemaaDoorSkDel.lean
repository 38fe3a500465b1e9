/- Package skip: Put and Del as the document says them; At; Levels. -/
import Derived.Test.YtopnbfhkfagemaaDoorSkPut2
import Derived.Test.YtopnbfhkfagemaaDoorSkLook
namespace Go.Proofs.YtopnbfhkfagemaaDoor
open Go.RowKit
set_option linter.unusedVariables false
section
variable {w : World} {G : Nat → Prop} {p : Addr} {q : Nat} {l : List SkM.E} {s : ByteArray} {v : Int}
theorem put_any (R : SkRel w G p l) (tz : Tz w) (gG : ¬ G 0) (hs : s.size ≤ lim) (v : Int) (hl : l.length ≤ 999) :
    Calls Tryd.prog 10 #[.pointer (some p), .string s, .int .i64 v] w fun e w' => e = .returned (.bool (SkM.get l s.data.toList).isNone) ∧ Put w G p (SkM.put l s.data.toList v) w' := by
  have R0 := R
  obtain ⟨⟨q, o, ns, rfl, st, rfl, hG⟩, ok, len, nm⟩ := R
  have hl' : ns.length ≤ 999 := by rw [List.length_map] at hl; exact hl
  cases hg : SkM.get (ns.map Nd.e) s.data.toList with
  | none =>
    cases st with
    | fresh hh => exact put_fresh R0 hh (hG q List.mem_cons_self) tz gG hs
    | some hh b sc ap => exact put_new R0 (.some hh b sc ap) hG tz gG hs hl' hg
  | some v0 =>
    by_cases e : v0 = v
    · subst e
      refine (put_same st hs hg).mono ?_
      rintro e w' ⟨rfl, hw⟩
      subst hw
      rw [ok.put_same hg]
      exact ⟨rfl, ⟨G, R0, fun k hk => .inl hk⟩, Only.refl _ _⟩
    · cases st with
      | fresh hh => cases hg
      | some hh b sc ap => exact put_else R0 (.some hh b sc ap) hG hs hg e
set_option maxRecDepth 20000 in
set_option maxHeartbeats 2000000 in
theorem del_some {F m : Nat} {ns : List Nd} {v0 : Int} (R : SkRel w G ⟨q, 0, none⟩ (ns.map Nd.e)) (st : St w q (some (F, m)) ns) (hG : ∀ k ∈ blocks q (some (F, m)) ns, G k) (hs : s.size ≤ lim) (hg : SkM.get (ns.map Nd.e) s.data.toList = some v0) :
    Calls Tryd.prog 12 #[.pointer (some ⟨q, 0, none⟩), .string s] w fun e w' => e = .returned (.bool true) ∧ Put w G ⟨q, 0, none⟩ (SkM.del (ns.map Nd.e) s.data.toList) w' := by
  have SC := Lib.hid (score_any st s (Nat.le_trans hs lim_le))
  rw [hg] at SC
  have RR := Lib.hid R
  have HG := Lib.hid hG
  obtain ⟨pre, y, post, rfl, ye, hpre, hpost, hd⟩ := nd_at ns R.ok hg
  cases st with
  | some hh b sc ap =>
  have ys : y.s = s.data.toList := congrArg Prod.fst ye
  have yv : y.v = v0 := congrArg Prod.snd ye
  have HH := Lib.hid hh
  have AP := Lib.hid ap
  have TK := Lib.hid (take_walk w q F m pre post y _ hh.front hh.scores b sc R.ok s ys.symm (Nat.le_trans hs lim_le) ap (by have := R.len; rw [List.length_map] at this; exact this) hpre fun z hz => by
    rcases List.mem_cons.1 hz with e | hz
    · rw [e]; exact SkM.lt_irrefl _
    · exact SkM.lt_asymm (hpost z hz))
  rw [yv, ys] at TK
  have HD := Lib.hid hd
  clear hh b sc ap hs hg R hG hpre hpost hd ye ys yv
  go_enter Tryd.func12, Tryd.ntmps12
  go_wp2_with fail
  go_at_call 19
  refine SC.out.mono ?_
  rintro e w0 ⟨rfl, hw0⟩
  obtain rfl := hw0.symm
  rw [show (Option.some v0).getD 0 = v0 from rfl, show (Option.some v0).isSome = true from rfl]
  go_wp2_with fail
  go_at_call 28
  refine TK.out.mono ?_
  rintro e w1 ⟨rfl, body1, nd1, ro1, sc1, o1⟩
  have fin : Put w G ⟨q, 0, none⟩ (SkM.del ((pre ++ y :: post).map Nd.e) s.data.toList) w1 := by
    have q1 : w1.heap[q]? = w.heap[q]? := o1.block q HH.out.lt fun e => by
      rcases e with e | e | ⟨z, hz, e⟩
      · exact AP.out.qF e
      · exact AP.out.qm e
      · exact (AP.out.q_ z hz).2 e
    have sub := mid_sub pre post y
    rw [HD.out] at sc1 ⊢
    have dk := RR.out.ok.del s.data.toList
    have dl := (SkM.del_sub ((pre ++ y :: post).map Nd.e) s.data.toList).length_le
    rw [HD.out] at dk dl
    refine ⟨⟨G, ⟨⟨q, _, _, rfl, .some (HH.out.same q1) body1 sc1 (AP.out.apart.sub sub).apt, rfl, fun k hk => ?_⟩, dk, Nat.le_trans dl RR.out.len, fun z hz => RR.out.names z (by obtain ⟨u, hu, rfl⟩ := List.mem_map.1 hz; exact List.mem_map.2 ⟨u, sub.mem hu, rfl⟩)⟩, fun k hk => .inl hk⟩, ?_⟩
    · rcases mem_blocks.1 hk with h | h | h | ⟨z, hz, h⟩
      · exact HG.out k (mem_blocks.2 (.inl h))
      · exact HG.out k (mem_blocks.2 (.inr (.inl h)))
      · exact HG.out k (mem_blocks.2 (.inr (.inr (.inl h))))
      · exact HG.out k (mem_blocks.2 (.inr (.inr (.inr ⟨z, sub.mem hz, h⟩))))
    · refine o1.wider fun k h => ?_
      rcases h with h | h | ⟨z, hz, h⟩
      · exact HG.out k (mem_blocks.2 (.inr (.inl h)))
      · exact HG.out k (mem_blocks.2 (.inr (.inr (.inl h))))
      · exact HG.out k (mem_blocks.2 (.inr (.inr (.inr ⟨z, hz, .inr h⟩))))
  have FIN := Lib.hid fin
  clear fin body1 nd1 ro1 sc1 o1
  go_wp2_with fail
  go_ret
  exact ⟨rfl, FIN.out⟩
theorem del_none {o : Option (Nat × Nat)} {ns : List Nd} (st : St w q o ns) (hs : s.size ≤ lim) (hg : SkM.get (ns.map Nd.e) s.data.toList = none) :
    Calls Tryd.prog 12 #[.pointer (some ⟨q, 0, none⟩), .string s] w fun e w' => e = .returned (.bool false) ∧ w' = w := by
  have SC := Lib.hid (score_any st s (Nat.le_trans hs lim_le))
  rw [hg] at SC
  clear st hs hg
  go_enter Tryd.func12, Tryd.ntmps12
  go_wp2_with fail
  go_at_call 19
  refine SC.out.mono ?_
  rintro e w0 ⟨rfl, hw0⟩
  obtain rfl := hw0.symm
  rw [show (none : Option Int).getD 0 = 0 from rfl, show (none : Option Int).isSome = false from rfl]
  go_wp2_with fail
  go_ret
  exact ⟨rfl, rfl⟩
theorem del_any (R : SkRel w G p l) (hs : s.size ≤ lim) :
    Calls Tryd.prog 12 #[.pointer (some p), .string s] w fun e w' => e = .returned (.bool (SkM.get l s.data.toList).isSome) ∧ Put w G p (SkM.del l s.data.toList) w' := by
  have R0 := R
  obtain ⟨⟨q, o, ns, rfl, st, rfl, hG⟩, ok, len, nm⟩ := R
  cases hg : SkM.get (ns.map Nd.e) s.data.toList with
  | none =>
    refine (del_none st hs hg).mono ?_
    rintro e w' ⟨rfl, hw⟩
    subst hw
    rw [SkM.del_none hg]
    exact ⟨rfl, ⟨G, R0, fun k hk => .inl hk⟩, Only.refl _ _⟩
  | some v0 =>
    cases st with
    | fresh hh => cases hg
    | some hh b sc ap => exact del_some R0 (.some hh b sc ap) hG hs hg
/-- A position that counts from the end, counted from the front. -/
def idx (n : Nat) (r : Int) : Int := if r < 0 then (n : Int) + r else r
theorem at_some {F m : Nat} {pre post : List Nd} {y : Nd} (st : St w q (some (F, m)) (pre ++ y :: post)) (h9 : (pre ++ y :: post).length ≤ 1000) (r : Int) (r0 : -9223372036854775808 ≤ r) (r1 : r ≤ 9223372036854775807) (hr : idx (pre ++ y :: post).length r = (pre.length : Int)) :
    Calls Tryd.prog 20 #[.pointer (some ⟨q, 0, none⟩), .int .i64 r] w fun e w' => e = .returned (.tuple #[.agg #[.string ⟨y.s.toArray⟩, .int .i64 y.v], .bool true]) ∧ Below w.heap.size w w' := by
  obtain ⟨w1, hw1⟩ : ∃ w1, w.alloc (.cells #[.string ⟨#[]⟩, .int .i64 0] 30) = w1 := ⟨_, rfl⟩
  have al : Below w.heap.size w w1 := by rw [← hw1]; exact (Below.refl _ w).alloc (Nat.le_refl _) _
  have st1 := st.same (fun b hb => al.block b (st.lt b hb)) al.size
  have LN := Lib.hid (len_any st1)
  have FR := Lib.hid (from_any st1 h9 r r0 r1)
  rw [show (if r < 0 then ((pre ++ y :: post).length : Int) + r else r) = (pre.length : Int) from hr] at FR
  have AL := Lib.hid al
  cases st1 with
  | some hh b sc ap =>
  have HB := Lib.hid b
  have FW := Lib.hid (find_walk w1 q F pre post y hh.front b h9)
  obtain ⟨N, hN⟩ : ∃ N, (pre ++ y :: post).length = N := ⟨_, rfl⟩
  rw [hN] at LN
  obtain ⟨P, hP⟩ : ∃ P, pre.length = P := ⟨_, rfl⟩
  rw [hP] at FR FW
  have pn : (P : Int) < (N : Int) := by rw [← hN, ← hP]; simp; omega
  have p0 : (0 : Int) ≤ (P : Int) := by omega
  obtain ⟨yb, hyb⟩ : ∃ b, y.b = b := ⟨_, rfl⟩
  rw [hyb] at FW
  obtain ⟨ss, hss⟩ : ∃ ss : ByteArray, (⟨y.s.toArray⟩ : ByteArray) = ss := ⟨_, rfl⟩
  obtain ⟨yv, hyv⟩ : ∃ yv, y.v = yv := ⟨_, rfl⟩
  rw [hss, hyv]
  have k0 : w1.cell? ⟨yb, 0, none⟩ = some (.string ss) := by rw [← hyb, ← hss]; exact (b.nds y (by simp)).name
  have k1 : w1.cell? ⟨yb, 1, none⟩ = some (.int .i64 yv) := by rw [← hyb, ← hyv]; exact (b.nds y (by simp)).score
  have z0 : w1.cell? ⟨w.heap.size, 0, none⟩ = some (.string ⟨#[]⟩) := by rw [← hw1, World.cell?_alloc_new]; rfl
  have z1 : w1.cell? ⟨w.heap.size, 1, none⟩ = some (.int .i64 0) := by rw [← hw1, World.cell?_alloc_new]; rfl
  have zf : ∀ i, w1.frozen? ⟨w.heap.size, i, none⟩ = false := fun i => by rw [← hw1]; exact World.frozen?_alloc_new _ _ _ _
  have K0 := Lib.hid k0
  have K1 := Lib.hid k1
  have Z0 := Lib.hid z0
  have Z1 := Lib.hid z1
  have ZF := Lib.hid zf
  clear st h9 r0 r1 hr al hh b sc ap hN hP hyb hss hyv k0 k1 z0 z1 zf
  go_enter Tryd.func20, Tryd.ntmps20
  go_wp2_with fail
  go_at_call 34
  refine FR.out.mono ?_
  rintro e w0 ⟨rfl, hw0⟩
  obtain rfl := hw0.symm
  go_wp2_with fail
  go_at_call 14
  refine LN.out.mono ?_
  rintro e w0 ⟨rfl, hw0⟩
  obtain rfl := hw0.symm
  go_wp2_with fail
  go_at_call 35
  refine FW.out.mono ?_
  rintro e w3 ⟨rfl, hb3⟩
  have c0 : w3.cell? ⟨yb, 0, none⟩ = some (.string ss) := (hb3.cell (p := ⟨yb, 0, none⟩) (cell_in K0.out)).trans K0.out
  have c1 : w3.cell? ⟨yb, 1, none⟩ = some (.int .i64 yv) := (hb3.cell (p := ⟨yb, 1, none⟩) (cell_in K1.out)).trans K1.out
  have d0 : w3.cell? ⟨w.heap.size, 0, none⟩ = some (.string ⟨#[]⟩) := (hb3.cell (p := ⟨w.heap.size, 0, none⟩) (cell_in Z0.out)).trans Z0.out
  have d1 : w3.cell? ⟨w.heap.size, 1, none⟩ = some (.int .i64 0) := (hb3.cell (p := ⟨w.heap.size, 1, none⟩) (cell_in Z1.out)).trans Z1.out
  have df : ∀ i, w3.frozen? ⟨w.heap.size, i, none⟩ = false := fun i => (World.frozen?_of_block (hb3.block w.heap.size (cell_in Z0.out))).trans (ZF.out i)
  have B3 : Hid (Below w.heap.size w w3) := AL.out.trans (hb3.mono AL.out.size)
  clear hb3
  go_wp2_with fail
  try simp only [Exit.inBlock, Exit.then]
  refine bodyPost_ret (res_two_tmp (P := Tryd.prog) (fn := Tryd.f20) (p := 4) (u := 5) (ty := 30) rfl _ _ ⟨w.heap.size, 0, none⟩ (.string ss) (.int .i64 yv) (.bool true) _ rfl rfl Tryd.underlying30 rfl (by kernel_rfl) ?_ ?_) rfl ⟨rfl, ?_⟩
  · go_simp
  · go_simp
  · exact (B3.out.setCell (Nat.le_refl _) _).setCell (Nat.le_refl _) _
theorem at_none {o : Option (Nat × Nat)} {ns : List Nd} (st : St w q o ns) (h9 : ns.length ≤ 1000) (r : Int) (r0 : -9223372036854775808 ≤ r) (r1 : r ≤ 9223372036854775807) (hr : idx ns.length r < 0 ∨ (ns.length : Int) ≤ idx ns.length r) :
    Calls Tryd.prog 20 #[.pointer (some ⟨q, 0, none⟩), .int .i64 r] w fun e w' => e = .returned (.tuple #[.agg #[.string ⟨#[]⟩, .int .i64 0], .bool false]) ∧ Below w.heap.size w w' := by
  obtain ⟨w1, hw1⟩ : ∃ w1, w.alloc (.cells #[.string ⟨#[]⟩, .int .i64 0] 30) = w1 := ⟨_, rfl⟩
  have al : Below w.heap.size w w1 := by rw [← hw1]; exact (Below.refl _ w).alloc (Nat.le_refl _) _
  have st1 := st.same (fun b hb => al.block b (st.lt b hb)) al.size
  have LN := Lib.hid (len_any st1)
  have FR := Lib.hid (from_any st1 h9 r r0 r1)
  obtain ⟨k, hk⟩ : ∃ k, idx ns.length r = k := ⟨_, rfl⟩
  rw [hk] at hr
  rw [show (if r < 0 then (ns.length : Int) + r else r) = k from hk] at FR
  have AL := Lib.hid al
  obtain ⟨N, hN⟩ : ∃ N, ns.length = N := ⟨_, rfl⟩
  rw [hN] at LN hr
  have z0 : w1.cell? ⟨w.heap.size, 0, none⟩ = some (.string ⟨#[]⟩) := by rw [← hw1, World.cell?_alloc_new]; rfl
  have z1 : w1.cell? ⟨w.heap.size, 1, none⟩ = some (.int .i64 0) := by rw [← hw1, World.cell?_alloc_new]; rfl
  have zf : ∀ i, w1.frozen? ⟨w.heap.size, i, none⟩ = false := fun i => by rw [← hw1]; exact World.frozen?_alloc_new _ _ _ _
  have n0 : (0 : Int) ≤ (N : Int) := by omega
  clear st st1 h9 r0 r1 hk al hN
  by_cases hk : k < 0
  · clear hr
    go_enter Tryd.func20, Tryd.ntmps20
    go_wp2_with fail
    go_at_call 34
    refine FR.out.mono ?_
    rintro e w0 ⟨rfl, hw0⟩
    obtain rfl := hw0.symm
    go_wp2_with fail
    try simp only [Exit.inBlock, Exit.then]
    refine bodyPost_ret (res_two_tmp (P := Tryd.prog) (fn := Tryd.f20) (p := 4) (u := 5) (ty := 30) rfl _ _ ⟨w.heap.size, 0, none⟩ (.string ⟨#[]⟩) (.int .i64 0) (.bool false) _ rfl rfl Tryd.underlying30 rfl (by kernel_rfl) ?_ ?_) rfl ⟨rfl, ?_⟩
    · go_simp
    · go_simp
    · exact (AL.out.setCell (Nat.le_refl _) _).setCell (Nat.le_refl _) _
  · have k1 : (N : Int) ≤ k := by omega
    have k2 : 0 ≤ k := by omega
    clear hr hk
    go_enter Tryd.func20, Tryd.ntmps20
    go_wp2_with fail
    go_at_call 34
    refine FR.out.mono ?_
    rintro e w0 ⟨rfl, hw0⟩
    obtain rfl := hw0.symm
    go_wp2_with fail
    go_at_call 14
    refine LN.out.mono ?_
    rintro e w0 ⟨rfl, hw0⟩
    obtain rfl := hw0.symm
    go_wp2_with fail
    try simp only [Exit.inBlock, Exit.then]
    refine bodyPost_ret (res_two_tmp (P := Tryd.prog) (fn := Tryd.f20) (p := 4) (u := 5) (ty := 30) rfl _ _ ⟨w.heap.size, 0, none⟩ (.string ⟨#[]⟩) (.int .i64 0) (.bool false) _ rfl rfl Tryd.underlying30 rfl (by kernel_rfl) ?_ ?_) rfl ⟨rfl, ?_⟩
    · go_simp
    · go_simp
    · exact (AL.out.setCell (Nat.le_refl _) _).setCell (Nat.le_refl _) _
end
end Go.Proofs.YtopnbfhkfagemaaDoor
