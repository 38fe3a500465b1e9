/- Package skip: Put: a name with a score. -/
import Derived.Test.YtopnbfhkfagemaaDoorSkAdd
import Derived.Test.YtopnbfhkfagemaaDoorSkTakeW
namespace Go.Proofs.YtopnbfhkfagemaaDoor
open Go.RowKit
set_option linter.unusedVariables false
theorem nd_part (t : SkM.E) (ns : List Nd) (h : (ns.map Nd.e).Pairwise SkM.lt) : ∃ pre post, ns = pre ++ post ∧ (∀ y ∈ pre, SkM.lt y.e t) ∧ ∀ y ∈ post, ¬ SkM.lt y.e t := by
  obtain ⟨a, b, e, ha, hb⟩ := SkM.part (fun y => SkM.lt y t) (SkM.lt_mono t) _ h
  obtain ⟨pre, post, rfl, rfl, rfl⟩ := List.map_eq_append_iff.1 e
  exact ⟨pre, post, rfl, fun y hy => ha _ (List.mem_map.2 ⟨y, hy, rfl⟩), fun y hy => hb _ (List.mem_map.2 ⟨y, hy, rfl⟩)⟩
theorem nd_at (ns : List Nd) (h : SkM.Ok (ns.map Nd.e)) {s : List UInt8} {v : Int} (k : SkM.get (ns.map Nd.e) s = some v) : ∃ pre y post, ns = pre ++ y :: post ∧ y.e = (s, v) ∧ (∀ z ∈ pre, SkM.lt z.e y.e) ∧ (∀ z ∈ post, SkM.lt y.e z.e) ∧ SkM.del (ns.map Nd.e) s = (pre ++ post).map Nd.e := by
  obtain ⟨a, b, e, ha, hb, hd⟩ := h.at_ k
  obtain ⟨pre, r, rfl, rfl, e2⟩ := List.map_eq_append_iff.1 e
  obtain ⟨y, post, rfl, e3, rfl⟩ := List.map_eq_cons_iff.1 e2
  refine ⟨pre, y, post, rfl, e3, fun z hz => ?_, fun z hz => ?_, by rw [hd, List.map_append]⟩
  · rw [e3]; exact ha _ (List.mem_map.2 ⟨z, hz, rfl⟩)
  · rw [e3]; exact hb _ (List.mem_map.2 ⟨z, hz, rfl⟩)
theorem Apt.new {q F m N : Nat} {pre post : List Nd} {x : Nd} (h : Apt q F m (pre ++ post)) (hq : q < N) (hF : F < N) (hm : m < N) (hn : ∀ y ∈ pre ++ post, y.b < N ∧ y.L < N) (xb : N ≤ x.b) (xL : N ≤ x.L) (ne : x.b ≠ x.L) : Apt q F m (pre ++ x :: post) := by
  have h2 : Apt q F m (x :: (pre ++ post)) := by
    refine ⟨h.qF, h.qm, h.Fm, fun y hy => ?_, fun y hy => ?_, fun y hy => ?_, fun y hy z hz => ?_, ?_, ?_⟩
    · rcases List.mem_cons.1 hy with rfl | hy
      · exact ⟨by omega, by omega⟩
      · exact h.q_ y hy
    · rcases List.mem_cons.1 hy with rfl | hy
      · exact ⟨by omega, by omega⟩
      · exact h.F_ y hy
    · rcases List.mem_cons.1 hy with rfl | hy
      · exact ⟨by omega, by omega⟩
      · exact h.m_ y hy
    · rcases List.mem_cons.1 hy with ey | hy
      · rcases List.mem_cons.1 hz with ez | hz
        · rw [ey, ez]; exact ne
        · have := (hn z hz).2; rw [ey]; omega
      · rcases List.mem_cons.1 hz with ez | hz
        · have := (hn y hy).1; rw [ez]; omega
        · exact h.bL y hy z hz
    · rw [List.map_cons, List.nodup_cons]
      exact ⟨fun k => by obtain ⟨y, hy, e⟩ := List.mem_map.1 k; have := (hn y hy).1; omega, h.nb⟩
    · rw [List.map_cons, List.nodup_cons]
      exact ⟨fun k => by obtain ⟨y, hy, e⟩ := List.mem_map.1 k; have := (hn y hy).2; omega, h.nL⟩
  exact (h2.apart.perm List.perm_middle.symm).apt
/-- What insert leaves, as a set. -/
theorem SkRel.mk_ {w w' : World} {G : Nat → Prop} {q F m : Nat} {pre post : List Nd} {x : Nd} {l : List SkM.E} {s : List UInt8} {v : Int} (R : SkRel w G ⟨q, 0, none⟩ l) (hl : (SkM.put l s v).length ≤ 1000) (hs : s.length ≤ lim) (hx : x.e = (s, v)) (hd : (pre ++ post).map Nd.e = SkM.del l s)
    (ha : ∀ y ∈ pre, SkM.lt y.e (s, v)) (hb : ∀ y ∈ post, ¬ SkM.lt y.e (s, v)) (hh : Head w' q (some ⟨F, 0, none⟩) (some m)) (body : Body w' F (pre ++ x :: post)) (sc : Scores w' (some m) (SkM.put l s v)) (ap : Apt q F m (pre ++ x :: post)) {G' : Nat → Prop} (g : ∀ k ∈ blocks q (some (F, m)) (pre ++ x :: post), G' k) : SkRel w' G' ⟨q, 0, none⟩ (SkM.put l s v) := by
  have e : (pre ++ x :: post).map Nd.e = SkM.put l s v := by
    unfold SkM.put
    rw [← hd, List.map_append, List.map_append, List.map_cons, hx]
    exact (SkM.ins_split (fun y hy => by obtain ⟨z, hz, rfl⟩ := List.mem_map.1 hy; exact ha z hz) (fun y hy => by obtain ⟨z, hz, rfl⟩ := List.mem_map.1 hy; exact hb z hz)).symm
  refine ⟨⟨q, _, _, rfl, .some hh body (by rw [e]; exact sc) ap, e, g⟩, R.ok.put s v, hl, fun y hy => ?_⟩
  rcases SkM.put_mem.1 hy with rfl | ⟨h, -⟩
  · exact hs
  · exact R.names y h
theorem mem_blocks {q F m k : Nat} {ns : List Nd} : k ∈ blocks q (some (F, m)) ns ↔ k = q ∨ k = F ∨ k = m ∨ ∃ y ∈ ns, k = y.b ∨ k = y.L := by
  unfold blocks
  simp only [List.mem_cons, List.mem_append, List.mem_map]
  constructor
  · rintro (h | h | h | ⟨y, hy, h⟩ | ⟨y, hy, h⟩)
    · exact .inl h
    · exact .inr (.inl h)
    · exact .inr (.inr (.inl h))
    · exact .inr (.inr (.inr ⟨y, hy, .inl h.symm⟩))
    · exact .inr (.inr (.inr ⟨y, hy, .inr h.symm⟩))
  · rintro (h | h | h | ⟨y, hy, h | h⟩)
    · exact .inl h
    · exact .inr (.inl h)
    · exact .inr (.inr (.inl h))
    · exact .inr (.inr (.inr (.inl ⟨y, hy, h.symm⟩)))
    · exact .inr (.inr (.inr (.inr ⟨y, hy, h.symm⟩)))
/-- What Put leaves. -/
def Put (w : World) (G : Nat → Prop) (p : Addr) (l : List SkM.E) (w' : World) : Prop := (∃ G', SkRel w' G' p l ∧ ∀ k, G' k → G k ∨ w.heap.size ≤ k) ∧ Only G w w'
section
variable {w : World} {G : Nat → Prop} {q : Nat} {l : List SkM.E} {s : ByteArray} {v : Int}
set_option maxRecDepth 20000 in
set_option maxHeartbeats 2000000 in
theorem put_same {o : Option (Nat × Nat)} {ns : List Nd} (st : St w q o ns) (hs : s.size ≤ lim) (hg : SkM.get (ns.map Nd.e) s.data.toList = some v) :
    Calls Tryd.prog 10 #[.pointer (some ⟨q, 0, none⟩), .string s, .int .i64 v] w fun e w' => e = .returned (.bool false) ∧ w' = w := by
  obtain ⟨fp, mo, hh, hsc⟩ := st.look
  have c1 := hh.scores
  have hl := hsc.look s (Nat.le_trans hs lim_le)
  rw [hg] at hl
  replace hl : (Instr.lookup 58 (.map mo) (.string s) true).run Tryd.prog w = .ok (.tuple #[.int .i64 v, .bool true]) w := hl
  clear hh hsc st hg hs
  go_enter Tryd.func10, Tryd.ntmps10
  go_wp2_with fail
  go_ret
  exact ⟨rfl, rfl⟩
set_option maxRecDepth 20000 in
set_option maxHeartbeats 2000000 in
theorem put_new {F m : Nat} {ns : List Nd} (R : SkRel w G ⟨q, 0, none⟩ (ns.map Nd.e)) (st : St w q (some (F, m)) ns) (hG : ∀ k ∈ blocks q (some (F, m)) ns, G k) (tz : Tz w) (gG : ¬ G 0) (hs : s.size ≤ lim) (hl : ns.length ≤ 999) (hg : SkM.get (ns.map Nd.e) s.data.toList = none) :
    Calls Tryd.prog 10 #[.pointer (some ⟨q, 0, none⟩), .string s, .int .i64 v] w fun e w' => e = .returned (.bool true) ∧ Put w G ⟨q, 0, none⟩ (SkM.put (ns.map Nd.e) s.data.toList v) w' := by
  have lt := st.lt
  have ST := Lib.hid st
  have RR := Lib.hid R
  have HG := Lib.hid hG
  cases st with
  | some hh b sc ap =>
  have c1 := hh.scores
  have hl0 := sc.look s (Nat.le_trans hs lim_le)
  rw [hg] at hl0
  replace hl0 : (Instr.lookup 58 (.map (some m)) (.string s) true).run Tryd.prog w = .ok (.tuple #[.int .i64 0, .bool false]) w := hl0
  have HH := Lib.hid hh
  have B := Lib.hid b
  have SC := Lib.hid sc
  have AP := Lib.hid ap
  have TZ := Lib.hid tz
  have GQ : Hid (q ≠ 0) := fun e => gG (by rw [← e]; exact hG q (mem_blocks.2 (.inl rfl)))
  have HS := Lib.hid hs
  have HL := Lib.hid hl
  have HGET := Lib.hid hg
  have LT := Lib.hid lt
  clear hh b sc ap tz gG hs hl hg lt R ST hG
  go_enter Tryd.func10, Tryd.ntmps10
  go_wp2_with fail
  go_at_call 27
  refine (add_walk w q _ _ HH.out TZ.out GQ.out s HS.out v).mono ?_
  rintro e w1 ⟨x, rfl, xs, xv, nd, ro, xh, xb, xL, ne, h1, o1⟩
  go_wp2_with fail
  go_at_call 26
  have hd : SkM.del (ns.map Nd.e) s.data.toList = ns.map Nd.e := SkM.del_none HGET.out
  obtain ⟨pre, post, rfl, ha, hb⟩ := nd_part (s.data.toList, v) ns RR.out.ok.sorted
  have xe : x.e = (s.data.toList, v) := by unfold Nd.e; rw [xs, xv]
  have lt : ∀ k, k = F ∨ k = m ∨ (∃ y ∈ pre ++ post, k = y.b ∨ k = y.L) → k < w.heap.size ∧ k ≠ q := fun k hk => ⟨LT.out k (mem_blocks.2 (.inr hk)), fun e => by
    rcases hk with h | h | ⟨y, hy, h | h⟩
    · exact AP.out.qF (e.symm.trans h)
    · exact AP.out.qm (e.symm.trans h)
    · exact (AP.out.q_ y hy).1 (e.symm.trans h)
    · exact (AP.out.q_ y hy).2 (e.symm.trans h)⟩
  have st1 : Body w1 F (pre ++ post) := B.out.same (o1.block F (lt F (.inl rfl)).1 (lt F (.inl rfl)).2) (fun y hy => ⟨o1.block _ (lt y.b (.inr (.inr ⟨y, hy, .inl rfl⟩))).1 (lt y.b (.inr (.inr ⟨y, hy, .inl rfl⟩))).2, o1.block _ (lt y.L (.inr (.inr ⟨y, hy, .inr rfl⟩))).1 (lt y.L (.inr (.inr ⟨y, hy, .inr rfl⟩))).2⟩) o1.size
  have sc1 : Scores w1 (some m) ((pre ++ post).map Nd.e) := SC.out.same fun b e => by injection e with e; subst e; exact o1.block _ (lt m (.inr (.inl rfl))).1 (lt m (.inr (.inl rfl))).2
  have ap1 : Apt q F m (pre ++ x :: post) := AP.out.new (HH.out.lt) (lt F (.inl rfl)).1 (lt m (.inr (.inl rfl))).1 (fun y hy => ⟨(lt y.b (.inr (.inr ⟨y, hy, .inl rfl⟩))).1, (lt y.L (.inr (.inr ⟨y, hy, .inr rfl⟩))).1⟩) xb xL ne
  refine (insert_some w1 q F m pre post x _ h1.front h1.scores st1 sc1 RR.out.ok (by rw [List.length_map]; have := HL.out; omega) nd ro xh (by rw [xs]; exact Nat.le_trans HS.out lim_le) ap1 (by have := HL.out; omega) (by rw [xe]; exact ha) (by rw [xe]; exact hb)).mono ?_
  rintro e w2 ⟨rfl, body, sc2, o2⟩
  rw [xs, xv] at sc2
  have LEN := RR.out.len
  have fin : Put w G ⟨q, 0, none⟩ (SkM.put ((pre ++ post).map Nd.e) s.data.toList v) w2 := by
    refine ⟨⟨fun k => G k ∨ w.heap.size ≤ k, RR.out.mk_ (by have := SkM.put_length ((pre ++ post).map Nd.e) s.data.toList v; have := HL.out; rw [List.length_map] at *; omega) HS.out xe (by rw [hd]) ha hb (h1.same (o2.block q (Nat.lt_of_lt_of_le HH.out.lt o1.size) fun e => ?_)) body sc2 ap1 (fun k hk => ?_), fun k hk => hk⟩, ?_⟩
    · rcases e with e | e | ⟨y, hy, e⟩
      · exact AP.out.qF e
      · exact AP.out.qm e
      · exact (ap1.q_ y hy).2 e
    · rcases mem_blocks.1 hk with h | h | h | ⟨y, hy, h⟩
      · exact .inl (HG.out k (mem_blocks.2 (.inl h)))
      · exact .inl (HG.out k (mem_blocks.2 (.inr (.inl h))))
      · exact .inl (HG.out k (mem_blocks.2 (.inr (.inr (.inl h)))))
      · have : y = x ∨ y ∈ pre ++ post := by
          rcases List.mem_append.1 hy with h | h
          · exact .inr (List.mem_append_left _ h)
          · rcases List.mem_cons.1 h with h | h
            · exact .inl h
            · exact .inr (List.mem_append_right _ h)
        rcases this with rfl | hy
        · rcases h with h | h
          · exact .inr (by omega)
          · exact .inr (by omega)
        · exact .inl (HG.out k (mem_blocks.2 (.inr (.inr (.inr ⟨y, hy, h⟩)))))
    · refine (o1.wider fun k e => HG.out k (mem_blocks.2 (.inl e))).trans (o2.wider (G := fun k => G k ∨ w.heap.size ≤ k) fun k h => ?_) fun k h => h
      rcases h with h | h | ⟨y, hy, h⟩
      · exact .inl (HG.out k (mem_blocks.2 (.inr (.inl h))))
      · exact .inl (HG.out k (mem_blocks.2 (.inr (.inr (.inl h)))))
      · have : y = x ∨ y ∈ pre ++ post := by
          rcases List.mem_append.1 hy with h | h
          · exact .inr (List.mem_append_left _ h)
          · rcases List.mem_cons.1 h with h | h
            · exact .inl h
            · exact .inr (List.mem_append_right _ h)
        rcases this with rfl | hy
        · exact .inr (by omega)
        · exact .inl (HG.out k (mem_blocks.2 (.inr (.inr (.inr ⟨y, hy, .inr h⟩)))))
  have FIN := Lib.hid fin
  clear nd ro xh xb xL ne h1 o1 hd ha hb xe lt st1 sc1 ap1 body sc2 o2 LEN fin xs xv c1 hl0
  go_wp2_with fail
  go_ret
  exact ⟨rfl, FIN.out⟩
end
end Go.Proofs.YtopnbfhkfagemaaDoor
