/- Package table: what add does. -/
import Derived.Test.YtedpanfdkdbblaaTbAdd
namespace Go.Proofs.Ytedpanfdkdbblaa
open Go.RowKit
set_option linter.unusedVariables false
theorem clone_any (s : ByteArray) (w : World) (hs : s.size ≤ 1048576) : Calls Try.prog 36 #[.string s] w fun e w' => e = .returned (.string s) ∧ Below w.heap.size w w' := by
  have H := Lib.hid (Try.stringslite_Clone s w (by omega))
  go_enter Try.func36, Try.ntmps36
  go_wp2_with fail
  go_at_call 49
  refine H.out.mono ?_
  rintro e w' ⟨rfl, hb⟩
  have HB := Lib.hid hb
  clear hb
  go_wp2_with fail
  go_ret
  exact ⟨rfl, HB.out⟩
/-- A new entry in a block of its own. -/
theorem entry_new (w : World) (s : ByteArray) (n : Int) (t : TypeId) : NdAt (w.alloc (.cells #[.string s, .int .i64 n, .pointer none] t)) ⟨w.heap.size, s.data.toList, n⟩ (.pointer none) := by
  refine ⟨?_, ?_, ?_, fun i => World.frozen?_alloc_new _ _ _ _, ?_⟩
  · rw [World.cell?_alloc_new]; rfl
  · rw [World.cell?_alloc_new]; rfl
  · rw [World.cell?_alloc_new]; rfl
  · show w.heap.size < (w.heap.push _).size
    simp
theorem add_two {T : Tb} {x : Nd} : sizeOf2 { addTo T x with count := T.count + 1 } = sizeOf2 T ∧ (addTo T x).c.length = T.c.length ∧ (addTo T x).work = T.work ∧ (addTo T x).count = T.count ∧ ((addTo T x).two = none ↔ T.two = none) := by
  unfold addTo sizeOf2
  rcases e : T.two with _ | ⟨B, cs⟩
  · exact ⟨rfl, by dsimp only; rw [List.length_set], rfl, rfl, by simp⟩
  · refine ⟨?_, rfl, rfl, rfl, by simp⟩
    show some (cs.set _ _).length = some cs.length
    rw [List.length_set]
theorem add_fits {T : Tb} {x : Nd} (f : Fits T) (hc : T.count ≤ 100000) : Fits { addTo T x with count := T.count + 1 } := by
  obtain ⟨e2, ec, -, -, -⟩ := add_two (T := T) (x := x)
  refine ⟨by show 0 < (addTo T x).c.length; rw [ec]; exact f.k0, by show (addTo T x).c.length ≤ _; rw [ec]; exact f.k9, fun B cs e => ?_, fun B cs e => ?_, by show T.count + 1 ≤ _; omega⟩
  · have e : (addTo T x).two = some (B, cs) := e
    have e2 : (addTo T x).two.map (fun o => o.2.length) = T.two.map fun o => o.2.length := e2
    rw [e] at e2
    rcases k : T.two with _ | ⟨B', cs'⟩
    · rw [k] at e2; cases e2
    · rw [k] at e2
      injection e2 with e2
      have e2 : cs.length = cs'.length := e2
      rw [e2]; exact f.j0 B' cs' k
  · have e : (addTo T x).two = some (B, cs) := e
    have e2 : (addTo T x).two.map (fun o => o.2.length) = T.two.map fun o => o.2.length := e2
    rw [e] at e2
    rcases k : T.two with _ | ⟨B', cs'⟩
    · rw [k] at e2; cases e2
    · rw [k] at e2
      injection e2 with e2
      have e2 : cs.length = cs'.length := e2
      rw [e2]; exact f.j9 B' cs' k
/-- The insert of a new entry, as a call. -/
theorem put_new {w : World} {q : Nat} {T : Tb} (h : Lies w q T) (ok : Ok q T) (f : Fits T) (s : ByteArray) (hs : s.size ≤ 64) (n : Int) (hnot : ∀ y ∈ nodes T, y.s ≠ s.data.toList) {B : Nat} {cs : List (List Nd)} (hB : (T.two = none ∧ B = T.B ∧ cs = T.c) ∨ T.two = some (B, cs)) (t : TypeId) :
    Calls Try.prog 35 #[.slice (some ⟨B, 0, none⟩) cs.length cs.length, .pointer (some ⟨w.heap.size, 0, none⟩)] (w.alloc (.cells #[.string s, .int .i64 n, .pointer none] t)) fun e w' => e = .returned (.tuple #[]) ∧
      Only (fun k => k ∈ blocks q T) w w' ∧ Lies w' q (addTo T ⟨w.heap.size, s.data.toList, n⟩) ∧ w.heap.size < w'.heap.size := by
  have al : Below w.heap.size w (w.alloc (.cells #[.string s, .int .i64 n, .pointer none] t)) := (Below.refl _ w).alloc (Nat.le_refl _) _
  have L1 := h.below al
  have bl := blocks_lt h
  have hb : w.heap.size ∉ blocks q T := fun m => by have := bl _ m; omega
  have facts : Arr (w.alloc (.cells #[.string s, .int .i64 n, .pointer none] t)) B cs ∧ B ∈ blocks q T ∧ (∀ y ∈ cs.flatten, y ∈ nodes T) ∧ (∀ y ∈ cs.flatten, y.b ≠ B) ∧ 0 < cs.length ∧ cs.length ≤ 1048576 := by
    rcases hB with ⟨e, rfl, rfl⟩ | e
    · exact ⟨L1.a1, List.mem_cons_of_mem _ List.mem_cons_self, fun y hy => mem1 hy, fun y hy => ok.node_B (mem1 hy), f.k0, f.k9⟩
    · exact ⟨L1.a2 B cs e, List.mem_cons_of_mem _ (List.mem_cons_of_mem _ (List.mem_append_left _ (by rw [e]; simp [B2s]))), fun y hy => mem2 e hy, fun y hy => ok.node_two e (mem2 e hy), f.j0 B cs e, f.j9 B cs e⟩
  obtain ⟨ar, mB, mn, nB, k0, k9⟩ := facts
  have inb : ∀ y ∈ nodes T, y.b ∈ blocks q T := fun y hy => List.mem_cons_of_mem _ (List.mem_cons_of_mem _ (List.mem_append_right _ (List.mem_map.2 ⟨y, hy, rfl⟩)))
  refine (insert_any ar (entry_new w s n t) (fun e => hb (by rw [show w.heap.size = B from e]; exact mB)) (fun y hy e => hb (by rw [← show y.b = w.heap.size from e]; exact inb y (mn y hy))) nB (by show s.data.toList.length ≤ _; have : s.data.toList.length = s.size := rfl; omega) k0 k9).mono ?_
  rintro e w' ⟨he, tt, a⟩
  refine ⟨he, ?_, L1.add ok f hb hB tt a, ?_⟩
  · refine (Only.of_below (F := fun k => k ∈ blocks q T) al).trans (tt.only (F := fun k => k ∈ blocks q T ∨ k = w.heap.size) fun a ha => ?_) fun k hk => ?_
    · rcases ha with rfl | rfl
      · exact .inr rfl
      · exact .inl mB
    · rcases hk with x | x
      · exact .inl x
      · exact .inr (by omega)
  · have := tt.size
    have a2 : (w.alloc (.cells #[.string s, .int .i64 n, .pointer none] t)).heap.size = w.heap.size + 1 := by show (w.heap.push _).size = _; simp
    omega
theorem Fitted.low {q H H' : Nat} {T T' : Tb} (h : Fitted q H T T') (k : H' ≤ H) : Fitted q H' T T' := { h with sub := fun b hb => (h.sub b hb).imp id fun x => Nat.le_trans k x }
/-- Behind the insert and the count. -/
theorem counted {w w2 w3 : World} {q : Nat} {T : Tb} (h : Lies w2 q T) (ok : Ok q T) (f : Fits T) (hk : T.count ≤ 100000) (s : ByteArray) (hs : s.size ≤ 64) (n : Int) (hnot : ∀ y ∈ nodes T, y.s ≠ s.data.toList) (hb : Below w.heap.size w w2)
    (o3 : Only (fun k => k ∈ blocks q T) w2 w3) (l3 : Lies w3 q (addTo T ⟨w2.heap.size, s.data.toList, n⟩)) :
    ∃ T1, T1 = { addTo T ⟨w2.heap.size, s.data.toList, n⟩ with count := T.count + 1 } ∧ Lies (w3.setCell ⟨q, 3, none⟩ (.int .i64 ((T.count : Int) + 1))) q T1 ∧ Ok q T1 ∧ Fits T1 ∧ T1.c.length = T.c.length ∧ (∀ k ∈ blocks q T1, k ∈ blocks q T ∨ w.heap.size ≤ k) ∧ Only (fun k => k ∈ blocks q T) w (w3.setCell ⟨q, 3, none⟩ (.int .i64 ((T.count : Int) + 1))) := by
  have bl := blocks_lt h
  have nb : w2.heap.size ∉ blocks q T := fun m => by have := bl _ m; omega
  have ok1 : Ok q { addTo T ⟨w2.heap.size, s.data.toList, n⟩ with count := T.count + 1 } := ok.add f nb hnot (by show s.data.toList.length ≤ _; have : s.data.toList.length = s.size := rfl; omega)
  have t : Turn (fun a => a.block = q) w3 (w3.setCell ⟨q, 3, none⟩ (.int .i64 ((T.count : Int) + 1))) := Turn.set (D := fun a => a.block = q) (a := ⟨q, 3, none⟩) _ rfl _
  refine ⟨_, rfl, l3.own2 ok1 t (l3.head.setCount (T.count + 1)) rfl rfl rfl, ok1, add_fits f hk, add_two.2.1, fun k hm => ?_, ?_⟩
  · rcases List.mem_cons.1 ((add_blocks (q := q) (x := ⟨w2.heap.size, s.data.toList, n⟩) f).mem_iff.1 hm) with e | e
    · have := hb.size
      exact .inr (by rw [e]; exact hb.size)
    · exact .inl e
  · refine ((Only.of_below (F := fun k => k ∈ blocks q T) hb).trans o3 fun k hk => .inl hk).trans (t.only (F := fun k => k ∈ blocks q T) fun a e => by rw [e]; exact List.mem_cons_self) fun k hk => .inl hk
set_option maxRecDepth 20000 in
set_option maxHeartbeats 4000000 in
theorem add_any (w : World) (q : Nat) (T : Tb) (h : Lies w q T) (ok : Ok q T) (f : Fits T) (hc : T.c.length ≤ 65536) (hk : T.count ≤ 100000) (s : ByteArray) (hs : s.size ≤ 64) (n : Int) (hnot : ∀ y ∈ nodes T, y.s ≠ s.data.toList) :
    Calls Try.prog 29 #[.pointer (some ⟨q, 0, none⟩), .string s, .int .i64 n] w fun e w' => e = .returned (.tuple #[]) ∧ ∃ x T', x.s = s.data.toList ∧ x.n = n ∧ Lies w' q T' ∧ Fitted q w.heap.size { addTo T x with count := T.count + 1 } T' ∧
      Only (fun k => k ∈ blocks q T) w w' ∧ ∀ k ∈ blocks q T', k ∈ blocks q T ∨ w.heap.size ≤ k := by
  have c0 := h.head.first
  have c1 := h.head.second
  have q1 := run_eql_some
  have HL := Lib.hid h
  have HK := Lib.hid ok
  have HF := Lib.hid f
  have HH := Lib.hid (And.intro hc (And.intro hk (And.intro hs hnot)))
  obtain ⟨o, ho⟩ : ∃ o, T.two = o := ⟨_, rfl⟩
  have HO := Lib.hid ho
  rw [ho] at c1
  obtain ⟨m, hm⟩ : ∃ m, T.c.length = m := ⟨_, rfl⟩
  have HM := Lib.hid hm
  rw [hm] at c0
  clear h ok f hc hk hnot ho hm
  go_enter Try.func29, Try.ntmps29
  go_wp2_with fail
  go_at_call 21
  refine (moving_any _ q _ HL.out.head).mono ?_
  rintro e w1 ⟨rfl, rfl⟩
  rw [HO.out]
  rcases o with _ | ⟨B, cs⟩
  · rw [show (none : Option (Nat × List (List Nd))).isSome = false from rfl]
    replace c1 : w1.cell? ⟨q, 1, none⟩ = some (.slice none 0 0) := c1
    go_wp2_with fail
    go_at_call 36
    refine (clone_any s w1 (by have := HH.out.2.2.1; omega)).mono ?_
    rintro e w2 ⟨rfl, hb⟩
    have HB := Lib.hid hb
    clear c0 c1 hb
    go_wp2_with fail
    go_at_call 35
    have P := put_new (HL.out.below HB.out) HK.out HF.out s HH.out.2.2.1 n HH.out.2.2.2 (.inl ⟨HO.out, rfl, rfl⟩) 60
    rw [HM.out] at P
    refine P.mono ?_
    rintro e w3 ⟨rfl, o3, l3, -⟩
    have k3 := l3.head.count
    have fr3 := l3.head.free 3
    rw [add_two.2.2.2.1] at k3
    obtain ⟨T1, e1, l4, ok4, f4, c4, sb, o4⟩ := counted (w := w1) (HL.out.below HB.out) HK.out HF.out HH.out.2.1 s HH.out.2.2.1 n HH.out.2.2.2 HB.out o3 l3
    have cn9 := HH.out.2.1
    have H4 := Lib.hid (And.intro e1 (And.intro l4 (And.intro ok4 (And.intro f4 (And.intro c4 (And.intro sb o4))))))
    obtain ⟨cn, hcn⟩ : ∃ cn, T.count = cn := ⟨_, rfl⟩
    rw [hcn] at k3 cn9 H4
    have cn0 : (0 : Int) ≤ (cn : Int) := by omega
    have cn8 : (cn : Int) ≤ 100000 := by omega
    have HCN := Lib.hid hcn
    clear P o3 l3 e1 l4 ok4 f4 c4 sb o4 hcn
    go_wp2_with fail
    go_at_call 30
    refine (fit_any _ q T1 H4.out.2.1 H4.out.2.2.1 H4.out.2.2.2.1 (by rw [H4.out.2.2.2.2.1]; exact HH.out.1)).mono ?_
    rintro e w5 ⟨rfl, T', l5, ft, o5⟩
    have H5 := Lib.hid (And.intro l5 (And.intro ft o5))
    clear l5 ft o5
    go_wp2_with fail
    go_end0
    have sz := H4.out.2.2.2.2.2.2.size
    refine ⟨rfl, ⟨w2.heap.size, s.data.toList, n⟩, T', rfl, rfl, H5.out.1, ?_, ?_, fun k hk => ?_⟩
    · have := H5.out.2.1.low sz
      rw [H4.out.1] at this
      rw [HCN.out]
      exact this
    · exact H4.out.2.2.2.2.2.2.trans H5.out.2.2 fun k hk => H4.out.2.2.2.2.2.1 k hk
    · rcases H5.out.2.1.sub k hk with x | x
      · exact H4.out.2.2.2.2.2.1 k x
      · exact .inr (Nat.le_trans sz x)
  · rw [show (some (B, cs)).isSome = true from rfl]
    replace c1 : w1.cell? ⟨q, 1, none⟩ = some (.slice (some ⟨B, 0, none⟩) cs.length cs.length) := c1
    go_wp2_with fail
    go_at_call 36
    refine (clone_any s w1 (by have := HH.out.2.2.1; omega)).mono ?_
    rintro e w2 ⟨rfl, hb⟩
    have HB := Lib.hid hb
    clear c0 c1 hb
    go_wp2_with fail
    go_at_call 35
    have P := put_new (HL.out.below HB.out) HK.out HF.out s HH.out.2.2.1 n HH.out.2.2.2 (.inr HO.out) 60
    refine P.mono ?_
    rintro e w3 ⟨rfl, o3, l3, -⟩
    have k3 := l3.head.count
    have fr3 := l3.head.free 3
    rw [add_two.2.2.2.1] at k3
    obtain ⟨T1, e1, l4, ok4, f4, c4, sb, o4⟩ := counted (w := w1) (HL.out.below HB.out) HK.out HF.out HH.out.2.1 s HH.out.2.2.1 n HH.out.2.2.2 HB.out o3 l3
    have cn9 := HH.out.2.1
    have H4 := Lib.hid (And.intro e1 (And.intro l4 (And.intro ok4 (And.intro f4 (And.intro c4 (And.intro sb o4))))))
    obtain ⟨cn, hcn⟩ : ∃ cn, T.count = cn := ⟨_, rfl⟩
    rw [hcn] at k3 cn9 H4
    have cn0 : (0 : Int) ≤ (cn : Int) := by omega
    have cn8 : (cn : Int) ≤ 100000 := by omega
    have HCN := Lib.hid hcn
    clear P o3 l3 e1 l4 ok4 f4 c4 sb o4 hcn
    go_wp2_with fail
    go_at_call 30
    refine (fit_any _ q T1 H4.out.2.1 H4.out.2.2.1 H4.out.2.2.2.1 (by rw [H4.out.2.2.2.2.1]; exact HH.out.1)).mono ?_
    rintro e w5 ⟨rfl, T', l5, ft, o5⟩
    have H5 := Lib.hid (And.intro l5 (And.intro ft o5))
    clear l5 ft o5
    go_wp2_with fail
    go_end0
    have sz := H4.out.2.2.2.2.2.2.size
    refine ⟨rfl, ⟨w2.heap.size, s.data.toList, n⟩, T', rfl, rfl, H5.out.1, ?_, ?_, fun k hk => ?_⟩
    · have := H5.out.2.1.low sz
      rw [H4.out.1] at this
      rw [HCN.out]
      exact this
    · exact H4.out.2.2.2.2.2.2.trans H5.out.2.2 fun k hk => H4.out.2.2.2.2.2.1 k hk
    · rcases H5.out.2.1.sub k hk with x | x
      · exact H4.out.2.2.2.2.2.1 k x
      · exact .inr (Nat.le_trans sz x)
end Go.Proofs.Ytedpanfdkdbblaa
