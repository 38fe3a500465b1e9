/- Package skip: Put: the first name, a name that is there with another score; Del. -/
import Derived.Test.YtopnbfhkfagemaaDoorSkPut
namespace Go.Proofs.YtopnbfhkfagemaaDoor
open Go.RowKit
set_option linter.unusedVariables false
theorem in_mid {α : Type} {pre post : List α} {x y : α} (h : y ∈ pre ++ x :: post) : y = x ∨ y ∈ pre ++ post := by
  rcases List.mem_append.1 h with h | h
  · exact .inr (List.mem_append_left _ h)
  · rcases List.mem_cons.1 h with h | h
    · exact .inl h
    · exact .inr (List.mem_append_right _ h)
section
variable {w : World} {G : Nat → Prop} {q : Nat} {l : List SkM.E} {s : ByteArray} {v : Int}
set_option maxRecDepth 20000 in
set_option maxHeartbeats 2000000 in
theorem put_fresh (R : SkRel w G ⟨q, 0, none⟩ []) (hh : Head w q none none) (hG : G q) (tz : Tz w) (gG : ¬ G 0) (hs : s.size ≤ lim) :
    Calls Tryd.prog 10 #[.pointer (some ⟨q, 0, none⟩), .string s, .int .i64 v] w fun e w' => e = .returned (.bool true) ∧ Put w G ⟨q, 0, none⟩ (SkM.put [] s.data.toList v) w' := by
  have RR := Lib.hid R
  have HG := Lib.hid hG
  have c1 := hh.scores
  have hl0 : (Instr.lookup 58 (.map none) (.string s) true).run Tryd.prog w = .ok (.tuple #[.int .i64 0, .bool false]) w := (scores_nil w).look s (Nat.le_trans hs lim_le)
  have HH := Lib.hid hh
  have TZ := Lib.hid tz
  have GQ : Hid (q ≠ 0) := fun e => gG (by rw [← e]; exact hG)
  have HS := Lib.hid hs
  clear hh tz gG hs R hG
  go_enter Tryd.func10, Tryd.ntmps10
  go_wp2_with fail
  go_at_call 27
  refine (add_walk w q _ _ HH.out TZ.out GQ.out s HS.out v).mono ?_
  rintro e w1 ⟨x, rfl, xs, xv, nd, ro, xh, xb, xL, ne, h1, o1⟩
  go_wp2_with fail
  go_at_call 26
  have xe : x.e = (s.data.toList, v) := by unfold Nd.e; rw [xs, xv]
  have ql := HH.out.lt
  refine (insert_none w1 q x h1.front h1.scores h1.free nd ro xh (by rw [xs]; exact Nat.le_trans HS.out lim_le) ⟨by omega, by omega, ne⟩).mono ?_
  rintro e w2 ⟨rfl, F, m, hF, hm, k0, k1, k2, kf, ap, body, sc2, o2⟩
  have hp : SkM.put [] s.data.toList v = [(s.data.toList, v)] := rfl
  rw [xs, xv] at sc2
  have fin : Put w G ⟨q, 0, none⟩ (SkM.put [] s.data.toList v) w2 := by
    have sz := o1.size
    obtain ⟨n, hn⟩ := h1.added
    refine ⟨⟨fun k => G k ∨ w.heap.size ≤ k, RR.out.mk_ (pre := []) (post := []) (by rw [hp]; show 1 ≤ 1000; decide) HS.out xe rfl (fun y hy => (nomatch hy)) (fun y hy => (nomatch hy)) ⟨k0, k1, ⟨n, k2.trans hn⟩, kf⟩ body (by rw [hp]; exact sc2) ap (fun k hk => ?_), fun k hk => hk⟩, ?_⟩
    · rcases mem_blocks.1 hk with h | h | h | ⟨y, hy, h⟩
      · exact .inl (by rw [h]; exact HG.out)
      · exact .inr (by omega)
      · exact .inr (by omega)
      · have : y = x := by simpa using hy
        subst this
        rcases h with h | h
        · exact .inr (by omega)
        · exact .inr (by omega)
    · refine (o1.wider fun k e => by rw [e]; exact HG.out).trans (o2.wider (G := fun k => G k ∨ w.heap.size ≤ k) fun k h => ?_) fun k h => h
      rcases h with h | h
      · exact .inl (by rw [h]; exact HG.out)
      · exact .inr (by omega)
  have FIN := Lib.hid fin
  clear nd ro xh xb xL ne h1 o1 xe ap body sc2 o2 fin xs xv c1 hl0 hF hm k0 k1 k2 kf ql hp
  go_wp2_with fail
  go_ret
  exact ⟨rfl, FIN.out⟩
set_option maxRecDepth 20000 in
set_option maxHeartbeats 2000000 in
theorem put_else {F m : Nat} {ns : List Nd} {v0 : Int} (R : SkRel w G ⟨q, 0, none⟩ (ns.map Nd.e)) (st : St w q (some (F, m)) ns) (hG : ∀ k ∈ blocks q (some (F, m)) ns, G k) (hs : s.size ≤ lim) (hg : SkM.get (ns.map Nd.e) s.data.toList = some v0) (hv : v0 ≠ v) :
    Calls Tryd.prog 10 #[.pointer (some ⟨q, 0, none⟩), .string s, .int .i64 v] w fun e w' => e = .returned (.bool false) ∧ Put w G ⟨q, 0, none⟩ (SkM.put (ns.map Nd.e) s.data.toList v) w' := by
  have lt := st.lt
  have RR := Lib.hid R
  have HG := Lib.hid hG
  obtain ⟨pre0, y, post0, rfl, ye, hpre0, hpost0, hd⟩ := nd_at ns R.ok hg
  cases st with
  | some hh b sc ap =>
  have c1 := hh.scores
  have hl0 := sc.look s (Nat.le_trans hs lim_le)
  rw [hg] at hl0
  replace hl0 : (Instr.lookup 58 (.map (some m)) (.string s) true).run Tryd.prog w = .ok (.tuple #[.int .i64 v0, .bool true]) w := hl0
  have ys : y.s = s.data.toList := congrArg Prod.fst ye
  have yv : y.v = v0 := congrArg Prod.snd ye
  have HH := Lib.hid hh
  have AP := Lib.hid ap
  have TK := Lib.hid (take_walk w q F m pre0 post0 y _ hh.front hh.scores b sc R.ok s ys.symm (Nat.le_trans hs lim_le) ap (by have := R.len; rw [List.length_map] at this; exact this) hpre0 fun z hz => by
    rcases List.mem_cons.1 hz with e | hz
    · rw [e]; exact SkM.lt_irrefl _
    · exact SkM.lt_asymm (hpost0 z hz))
  have HS := Lib.hid hs
  have HY := Lib.hid (And.intro ys yv)
  have HHI := Lib.hid (b.high y (by simp))
  have HD := Lib.hid hd
  have LT := Lib.hid lt
  have hvn : (v0 == v) = false := by simpa using hv
  rw [yv] at TK
  clear hh b sc ap hs hg lt R hG hpre0 hpost0 hd ye ys yv hv
  go_enter Tryd.func10, Tryd.ntmps10
  go_wp2_with fail
  go_at_call 28
  refine TK.out.mono ?_
  rintro e w1 ⟨rfl, body1, nd1, ro1, sc1, o1⟩
  obtain ⟨yb, hyb⟩ : ∃ b, y.b = b := ⟨_, rfl⟩
  have YB := Lib.hid hyb
  rw [HY.out.1] at sc1
  have c3 := nd1.score
  have f3 := nd1.free 1
  rw [hyb] at c3 f3 ⊢
  have B1 := Lib.hid body1
  have N1 := Lib.hid nd1
  have R1 := Lib.hid ro1
  have S1 := Lib.hid sc1
  have O1 := Lib.hid o1
  clear body1 nd1 ro1 sc1 o1 hyb TK
  go_wp2_with fail
  obtain ⟨w2, hw2⟩ : ∃ w2, w1.setCell ⟨yb, 1, none⟩ (.int .i64 v) = w2 := ⟨_, rfl⟩
  have t2 : Turn (fun a => a = ⟨yb, 1, none⟩) w1 w2 := by rw [← hw2]; exact Turn.set (D := fun a => a = ⟨yb, 1, none⟩) w1 rfl _
  have k2 : w2.cell? ⟨yb, 1, none⟩ = some (.int .i64 v) := by rw [← hw2]; exact World.cell?_setCell_same _ _ _ c3
  rw [hw2]
  clear hw2 c3 f3
  go_at_call 26
  obtain ⟨x, hx⟩ : ∃ x : Nd, x = ⟨y.b, y.L, y.s, v, y.h⟩ := ⟨_, rfl⟩
  have xe : x.e = (s.data.toList, v) := by rw [hx]; unfold Nd.e; rw [HY.out.1]
  have sorted2 : ((pre0 ++ post0).map Nd.e).Pairwise SkM.lt := by rw [← HD.out]; exact (RR.out.ok.del _).sorted
  obtain ⟨pre, post, epp, ha, hb⟩ := nd_part (s.data.toList, v) (pre0 ++ post0) sorted2
  have nb : ∀ b, b ≠ yb → b < w1.heap.size → w2.heap[b]? = w1.heap[b]? := fun b hb hl => t2.block b hl fun a ha e => hb (by rw [← ha, e])
  have yin : y ∈ pre0 ++ y :: post0 := by simp
  have sub0 : ∀ z ∈ pre0 ++ post0, z ∈ pre0 ++ y :: post0 := fun z hz => (mid_sub pre0 post0 y).mem hz
  have apy : Apt q F m (y :: (pre0 ++ post0)) := (AP.out.apart.perm List.perm_middle).apt
  have zb : ∀ z ∈ pre0 ++ post0, z.b ≠ yb ∧ z.L ≠ yb := fun z hz => by
    have := apy.nb
    rw [List.map_cons, List.nodup_cons] at this
    rw [← YB.out]
    exact ⟨fun e => this.1 (by rw [← e]; exact List.mem_map.2 ⟨z, hz, rfl⟩), fun e => AP.out.bL y yin z (sub0 z hz) e.symm⟩
  have Fb : F ≠ yb := by rw [← YB.out]; exact (AP.out.F_ y yin).1
  have mb : m ≠ yb := by rw [← YB.out]; exact (AP.out.m_ y yin).1
  have qb : q ≠ yb := by rw [← YB.out]; exact (AP.out.q_ y yin).1
  have body2 : Body w2 F (pre ++ post) := by
    rw [← epp]
    exact B1.out.same (nb F Fb B1.out.ltF) (fun z hz => ⟨nb _ (zb z hz).1 (B1.out.nds z hz).lt, nb _ (zb z hz).2 (B1.out.nds z hz).ltL⟩) t2.size
  have sc2 : Scores w2 (some m) (SkM.del ((pre0 ++ y :: post0).map Nd.e) s.data.toList) := S1.out.same fun b e => by injection e with e; subst e; exact nb _ mb S1.out.lt
  have nd2 : NdAt w2 x := by
    have lt1 := N1.out.lt
    rw [hx]
    refine ⟨?_, ?_, ?_, fun i => ?_, Nat.lt_of_lt_of_le N1.out.lt t2.size, fun i => ?_, Nat.lt_of_lt_of_le N1.out.ltL t2.size⟩
    · rw [t2.cell _ lt1 (fun e => by injection e with _ e _; cases e)]; exact N1.out.name
    · show w2.cell? ⟨y.b, 1, none⟩ = _; rw [YB.out]; exact k2
    · rw [t2.cell _ lt1 (fun e => by injection e with _ e _; cases e)]; exact N1.out.links
    · rw [t2.frozen _ lt1]; exact N1.out.free i
    · rw [t2.frozen _ N1.out.ltL]; exact N1.out.freeL i
  have Lb : y.L ≠ yb := by rw [← YB.out]; exact fun e => AP.out.bL y yin y yin e.symm
  have ro2 : Room w2 x 0 := by rw [hx]; exact fun l hl k => (R1.out.same (nb y.L Lb N1.out.ltL)) l hl k
  have q2 : ∀ i, w2.cell? ⟨q, i, none⟩ = w.cell? ⟨q, i, none⟩ := fun i => by
    have ql := HH.out.lt
    have h1 : w1.heap[q]? = w.heap[q]? := O1.out.block q ql fun e => by
      rcases e with e | e | ⟨z, hz, e⟩
      · exact AP.out.qF e
      · exact AP.out.qm e
      · exact (AP.out.q_ z hz).2 e
    exact (World.cell?_of_block (nb q qb (Nat.lt_of_lt_of_le ql O1.out.size))).trans (World.cell?_of_block h1)
  have h2 : w2.heap[q]? = w.heap[q]? := by
    have ql := HH.out.lt
    exact (nb q qb (Nat.lt_of_lt_of_le ql O1.out.size)).trans (O1.out.block q ql fun e => by
      rcases e with e | e | ⟨z, hz, e⟩
      · exact AP.out.qF e
      · exact AP.out.qm e
      · exact (AP.out.q_ z hz).2 e)
  have hd2 := HH.out.same h2
  have apx : Apt q F m (pre ++ x :: post) := by
    have h3 : Apart q F m (x :: (pre0 ++ post0)) := by rw [hx]; exact apy.apart
    rw [epp] at h3
    exact (h3.perm List.perm_middle.symm).apt
  have len2 : (pre ++ post).length ≤ 1000 := by
    rw [← epp]
    have := RR.out.len
    simp only [List.length_map, List.length_append, List.length_cons] at this ⊢
    omega
  have delok := RR.out.ok.del s.data.toList
  have dlen : (SkM.del ((pre0 ++ y :: post0).map Nd.e) s.data.toList).length ≤ 1000 := Nat.le_trans (SkM.del_sub _ _).length_le RR.out.len
  have xb : x.b = yb := by rw [hx]; exact YB.out
  rw [← xb]
  refine (insert_some w2 q F m pre post x _ hd2.front hd2.scores body2 sc2 delok dlen nd2 ro2 (by rw [hx]; exact HHI.out) (by rw [show x.s = s.data.toList from congrArg Prod.fst xe]; exact Nat.le_trans HS.out lim_le) apx len2 (by rw [xe]; exact ha) (by rw [xe]; exact hb)).mono ?_
  rintro e w3 ⟨rfl, body3, sc3, o3⟩
  have xs : x.s = s.data.toList := congrArg Prod.fst xe
  have xv : x.v = v := congrArg Prod.snd xe
  have eput : SkM.put (SkM.del ((pre0 ++ y :: post0).map Nd.e) s.data.toList) x.s x.v = SkM.put ((pre0 ++ y :: post0).map Nd.e) s.data.toList v := by
    rw [xs, xv]
    unfold SkM.put
    rw [SkM.del_none ((SkM.get_none (l := SkM.del _ _)).2 fun z hz => (SkM.mem_del.1 hz).2)]
  rw [eput] at sc3
  have inns : ∀ z ∈ pre ++ x :: post, (∃ u ∈ pre0 ++ y :: post0, z.b = u.b ∧ z.L = u.L) := fun z hz => by
    rcases in_mid hz with e | hz
    · exact ⟨y, yin, by rw [e, hx], by rw [e, hx]⟩
    · rw [← epp] at hz
      exact ⟨z, sub0 z hz, rfl, rfl⟩
  have LEN : (SkM.put ((pre0 ++ y :: post0).map Nd.e) s.data.toList v).length ≤ 1000 := by
    unfold SkM.put
    rw [SkM.ins_length]
    have h1 := SkM.del_length RR.out.ok s.data.toList
    have h2 : (SkM.get ((pre0 ++ y :: post0).map Nd.e) s.data.toList).isSome = true := by
      rw [(SkM.get_some RR.out.ok.names (v := v0)).2 (List.mem_map.2 ⟨y, yin, by unfold Nd.e; rw [HY.out.1, HY.out.2]⟩)]; rfl
    rw [h2, if_pos rfl] at h1
    have := RR.out.len
    omega
  have fin : Put w G ⟨q, 0, none⟩ (SkM.put ((pre0 ++ y :: post0).map Nd.e) s.data.toList v) w3 := by
    have q3 : w3.heap[q]? = w2.heap[q]? := o3.block q (Nat.lt_of_lt_of_le HH.out.lt (Nat.le_trans O1.out.size t2.size)) fun e => by
      rcases e with e | e | ⟨z, hz, e⟩
      · exact AP.out.qF e
      · exact AP.out.qm e
      · exact (apx.q_ z hz).2 e
    refine ⟨⟨G, RR.out.mk_ LEN HS.out xe (by rw [← epp]; exact HD.out.symm) ha hb (hd2.same q3) body3 sc3 apx (fun k hk => ?_), fun k hk => .inl hk⟩, ?_⟩
    · rcases mem_blocks.1 hk with h | h | h | ⟨z, hz, h⟩
      · exact HG.out k (mem_blocks.2 (.inl h))
      · exact HG.out k (mem_blocks.2 (.inr (.inl h)))
      · exact HG.out k (mem_blocks.2 (.inr (.inr (.inl h))))
      · obtain ⟨u, hu, e1, e2⟩ := inns z hz
        rw [e1, e2] at h
        exact HG.out k (mem_blocks.2 (.inr (.inr (.inr ⟨u, hu, h⟩))))
    · have a1 : Only G w w1 := O1.out.wider fun k h => by
        rcases h with h | h | ⟨z, hz, h⟩
        · exact HG.out k (mem_blocks.2 (.inr (.inl h)))
        · exact HG.out k (mem_blocks.2 (.inr (.inr (.inl h))))
        · exact HG.out k (mem_blocks.2 (.inr (.inr (.inr ⟨z, hz, .inr h⟩))))
      have a2 : Only G w1 w2 := t2.only (F := G) fun a e => by rw [e]; exact HG.out yb (mem_blocks.2 (.inr (.inr (.inr ⟨y, yin, .inl YB.out.symm⟩))))
      have a3 : Only G w2 w3 := o3.wider fun k h => by
        rcases h with h | h | ⟨z, hz, h⟩
        · exact HG.out k (mem_blocks.2 (.inr (.inl h)))
        · exact HG.out k (mem_blocks.2 (.inr (.inr (.inl h))))
        · obtain ⟨u, hu, e1, e2⟩ := inns z hz
          rw [e2] at h
          exact HG.out k (mem_blocks.2 (.inr (.inr (.inr ⟨u, hu, .inr h⟩))))
      exact (a1.trans a2 fun k h => .inl h).trans a3 fun k h => .inl h
  have FIN := Lib.hid fin
  clear nd2 ro2 apx body2 sc2 o3 fin xs xv c1 hl0 LEN inns eput body3 sc3 delok dlen len2 hd2 h2 q2 Lb zb Fb mb qb sub0 apy nb ha hb epp sorted2 xe hx t2 k2 yin xb
  go_wp2_with fail
  go_ret
  exact ⟨rfl, FIN.out⟩
end
end Go.Proofs.YtopnbfhkfagemaaDoor
