/- Package table: what move does. -/
import Derived.Test.YtedpanfdkdbblaaTbMove
namespace Go.Proofs.Ytedpanfdkdbblaa
open Go.RowKit
set_option linter.unusedVariables false
/-- The state of the moving between two rounds. -/
structure MvI (w : World) (q : Nat) (T : Tb) (B : Nat) (n : Nat) (g : Nat) (wr : World) (T' : Tb) (cs : List (List Nd)) : Prop where
  lies : Lies wr q T'
  ok : Ok q T'
  two : T'.two = some (B, cs)
  len2 : cs.length = n
  eB : T'.B = T.B
  len1 : T'.c.length = T.c.length
  perm : (nodes T').Perm (nodes T)
  sum : T'.work + T'.c.flatten.length = T.c.flatten.length
  work : T'.work ≤ 8
  count : T'.count = T.count
  left : (T.c.length - T'.passed) + T'.c.flatten.length = g
  only : Only (fun k => k ∈ blocks q T) w wr
theorem MvI.sub {w : World} {q : Nat} {T : Tb} {B n g : Nat} {wr : World} {T' : Tb} {cs cs0 : List (List Nd)} (h : MvI w q T B n g wr T' cs) (e : T.two = some (B, cs0)) : ∀ k, k ∈ blocks q T' ↔ k ∈ blocks q T := fun k =>
  (blocks_perm h.eB (by rw [h.two, e]; rfl) h.perm).mem_iff
theorem q_mem (q : Nat) (T : Tb) : q ∈ blocks q T := List.mem_cons_self
theorem flat_pos {cs : List (List Nd)} {j : Nat} {e : Nd} {r : List Nd} (hc : chainAt cs j = e :: r) : 0 < cs.flatten.length :=
  List.length_pos_of_mem (flat_mem (j := j) (x := e) (by rw [hc]; exact List.mem_cons_self))
theorem flat_less {cs : List (List Nd)} {j : Nat} {e : Nd} {r : List Nd} (hj : j < cs.length) (hc : chainAt cs j = e :: r) : (cs.set j r).flatten.length + 1 = cs.flatten.length := by
  obtain ⟨A, C, h1, h2⟩ := flat_at hj
  rw [h1, h2, hc]
  simp only [List.length_append, List.length_cons]
  omega
theorem MvI.below {w : World} {q : Nat} {T : Tb} {B n g : Nat} {wr w' : World} {T' : Tb} {cs : List (List Nd)} (h : MvI w q T B n g wr T' cs) (hb : Below wr.heap.size wr w') : MvI w q T B n g w' T' cs :=
  { h with
    lies := h.lies.below hb
    only := h.only.trans (Only.of_below (F := fun _ => False) hb) fun _ e => e.elim }
theorem MvI.pass {w : World} {q : Nat} {T : Tb} {B n g : Nat} {wr : World} {T' : Tb} {cs : List (List Nd)} (h : MvI w q T B n g wr T' cs) (hlt : T'.passed < T'.c.length) (hc : chainAt T'.c T'.passed = []) :
    g - 1 < g ∧ MvI w q T B n (g - 1) (wr.setCell ⟨q, 2, none⟩ (.int .i64 ((T'.passed : Int) + 1))) { T' with passed := T'.passed + 1 } cs := by
  have hl := h.left
  have h1 := h.len1
  have t : Turn (fun a => a.block = q) wr (wr.setCell ⟨q, 2, none⟩ (.int .i64 ((T'.passed : Int) + 1))) := Turn.set (D := fun a => a.block = q) (a := ⟨q, 2, none⟩) wr rfl _
  refine ⟨by omega, h.lies.own h.ok t (h.lies.head.setPassed (T'.passed + 1)) rfl rfl rfl, h.ok.pass1 hlt hc h.two, h.two, h.len2, h.eB, h.len1, h.perm, h.sum, h.work, h.count, ?_, ?_⟩
  · show T.c.length - (T'.passed + 1) + T'.c.flatten.length = g - 1
    omega
  · exact h.only.trans (t.only (F := fun k => k ∈ blocks q T) fun a e => by rw [e]; exact q_mem q T) fun k hk => .inl hk
theorem MvI.shifted {w : World} {q : Nat} {T : Tb} {B n g : Nat} {wr : World} {T' : Tb} {cs cs0 : List (List Nd)} (h : MvI w q T B n g wr T' cs) (e0 : T.two = some (B, cs0)) {e : Nd} {r : List Nd} (hlt : T'.passed < T'.c.length) (hc : chainAt T'.c T'.passed = e :: r) (k0 : 0 < cs.length) (h8 : T'.work < 8)
    {w' : World} (t : Turn (fun a => a.block ∈ blocks q T' ∧ a.block ≠ q) wr w') (L : Lies w' q (shift T' T'.passed r B cs e T'.work)) :
    g - 1 < g ∧ ∃ T2 cs2, MvI w q T B n (g - 1) (w'.setCell ⟨q, 4, none⟩ (.int .i64 ((T'.work : Int) + 1))) T2 cs2 := by
  have hl := h.left
  have hs := h.sum
  have fl := flat_less hlt hc
  have pm := (shift_perm h.two hlt hc k0 T'.work).1
  have ok2 := h.ok.shift h.two hlt hc k0 T'.work (Nat.le_refl _)
  have t2 : Turn (fun a => a.block = q) w' (w'.setCell ⟨q, 4, none⟩ (.int .i64 ((T'.work : Int) + 1))) := Turn.set (D := fun a => a.block = q) (a := ⟨q, 4, none⟩) w' rfl _
  refine ⟨by omega, { shift T' T'.passed r B cs e T'.work with work := T'.work + 1 }, _, L.own ok2 t2 (L.head.setWork (T'.work + 1)) rfl rfl rfl, ok2.worked _, rfl, ?_, h.eB, ?_, pm.trans h.perm, ?_, h8, h.count, ?_, ?_⟩
  · rw [List.length_set]; exact h.len2
  · show (T'.c.set T'.passed r).length = T.c.length
    rw [List.length_set]; exact h.len1
  · show T'.work + 1 + (T'.c.set T'.passed r).flatten.length = T.c.flatten.length
    omega
  · show T.c.length - T'.passed + (T'.c.set T'.passed r).flatten.length = g - 1
    omega
  · refine (h.only.trans (t.only (F := fun k => k ∈ blocks q T') fun a e => e.1) fun k hk => .inl ((h.sub e0 k).1 hk)).trans (t2.only (F := fun k => k ∈ blocks q T) fun a e => by rw [e]; exact q_mem q T) fun k hk => .inl hk
/-- The moving stands still for this call. -/
theorem MvI.stay {w : World} {q : Nat} {T : Tb} {B g : Nat} {wr : World} {T' : Tb} {cs cs0 : List (List Nd)} (h : MvI w q T B cs0.length g wr T' cs) (e0 : T.two = some (B, cs0)) (h8 : T'.work = 8) {e : Nd} {r : List Nd} {p : Nat} (hc : chainAt T'.c p = e :: r) : Mv q T T' := by
  refine ⟨h.ok, h.perm, h.work, h.count, fun k hk => (h.sub e0 k).1 hk, fun x => ?_, fun B' cs' x => .inr ⟨cs, ?_, ?_, h.len1, ?_, flat_pos hc⟩⟩
  · rw [e0] at x; cases x
  · rw [e0] at x; injection x with x; injection x with x1 x2; rw [← x1]; exact h.two
  · rw [e0] at x; injection x with x; injection x with x1 x2; rw [← x2]; exact h.len2
  · have := h.sum; omega
theorem MvI.stop {w : World} {q : Nat} {T : Tb} {B g : Nat} {wr : World} {T' : Tb} {cs cs0 : List (List Nd)} (h : MvI w q T B cs0.length g wr T' cs) (e0 : T.two = some (B, cs0)) (hp : T'.passed = T'.c.length) :
    ∃ T2, Lies (((wr.setCell ⟨q, 0, none⟩ (.slice (some ⟨B, 0, none⟩) cs.length cs.length)).setCell ⟨q, 1, none⟩ (.slice none 0 0)).setCell ⟨q, 2, none⟩ (.int .i64 0)) q T2 ∧ Mv q T T2 ∧ Only (fun k => k ∈ blocks q T) w (((wr.setCell ⟨q, 0, none⟩ (.slice (some ⟨B, 0, none⟩) cs.length cs.length)).setCell ⟨q, 1, none⟩ (.slice none 0 0)).setCell ⟨q, 2, none⟩ (.int .i64 0)) := by
  obtain ⟨en, ee⟩ := ended_nodes h.ok h.two hp
  have t : Turn (fun a => a.block = q) wr (((wr.setCell ⟨q, 0, none⟩ (.slice (some ⟨B, 0, none⟩) cs.length cs.length)).setCell ⟨q, 1, none⟩ (.slice none 0 0)).setCell ⟨q, 2, none⟩ (.int .i64 0)) :=
    (((Turn.refl (fun a => a.block = q) wr).store (.inl rfl) _).store (.inl rfl) _).store (.inl rfl) _
  have hs := h.sum
  have hw := h.work
  rw [ee] at hs
  refine ⟨ended T' B cs, h.lies.fall h.ok h.two t h.lies.head.setEnd, ⟨h.ok.ended h.two hp, by rw [en]; exact h.perm, h.work, h.count, fun k hk => ?_, fun x => ?_, fun B' cs' x => .inl ⟨rfl, ?_, ?_⟩⟩, ?_⟩
  · refine (h.sub e0 k).1 ?_
    unfold blocks at hk ⊢
    rw [en] at hk
    rw [h.two]
    rcases List.mem_cons.1 hk with e | e
    · exact e ▸ List.mem_cons_self
    · exact List.mem_cons_of_mem _ (List.mem_cons_of_mem _ e)
  · rw [e0] at x; cases x
  · rw [e0] at x; injection x with x; injection x with x1 x2; rw [← x2]; exact h.len2
  · have hs' : T'.work + 0 = T.c.flatten.length := hs
    omega
  · exact h.only.trans (t.only (F := fun k => k ∈ blocks q T) fun a e => by rw [e]; exact q_mem q T) fun k hk => .inl hk
set_option maxRecDepth 20000 in
set_option maxHeartbeats 4000000 in
theorem move_any (w : World) (q : Nat) (T : Tb) (h : Lies w q T) (ok : Ok q T) (f : Fits T) :
    Calls Try.prog 33 #[.pointer (some ⟨q, 0, none⟩)] w fun e w' => e = .returned (.tuple #[]) ∧ ∃ T', Lies w' q T' ∧ Mv q T T' ∧ Only (fun k => k ∈ blocks q T) w w' := by
  have c4 := h.head.work
  have f4 := h.head.free 4
  have hT0 : Head (w.setCell ⟨q, 4, none⟩ (.int .i64 0)) q { T with work := 0 } := h.head.setWork 0
  have t0 : Turn (fun a => a.block = q) w (w.setCell ⟨q, 4, none⟩ (.int .i64 0)) := Turn.set (D := fun a => a.block = q) (a := ⟨q, 4, none⟩) w rfl _
  have L0 : Lies (w.setCell ⟨q, 4, none⟩ (.int .i64 0)) q { T with work := 0 } := h.own ok t0 hT0 rfl rfl rfl
  have O0 : Only (fun k => k ∈ blocks q T) w (w.setCell ⟨q, 4, none⟩ (.int .i64 0)) := t0.only fun a e => by rw [e]; exact q_mem q T
  have OK := Lib.hid ok
  have FF := Lib.hid f
  have HT := Lib.hid hT0
  have HL := Lib.hid L0
  have HO := Lib.hid O0
  have q0 := run_eql_none
  have q1 := run_eql_some
  obtain ⟨o, ho⟩ : ∃ o, T.two = o := ⟨_, rfl⟩
  have HTW := Lib.hid ho
  clear h ok f hT0 t0 L0 O0 ho
  go_enter Try.func33, Try.ntmps33
  go_wp2_with fail
  go_at_call 21
  refine (moving_any _ q _ HT.out).mono ?_
  rintro e w1 ⟨rfl, hw1⟩
  rw [show ({ T with work := 0 } : Tb).two = o from HTW.out]
  have HW1 := Lib.hid hw1
  clear hw1
  rcases o with _ | ⟨B, cs⟩
  · rw [show (none : Option (Nat × List (List Nd))).isSome = false from rfl]
    go_wp2_with fail
    refine ⟨rfl, _, results_none rfl _ _ _, rfl, { T with work := 0 }, by rw [HW1.out]; exact HL.out, ⟨OK.out.worked 0, List.Perm.refl _, Nat.zero_le _, rfl, fun k hk => hk, fun e => ⟨e, rfl⟩, fun B cs e => ?_⟩, by rw [HW1.out]; exact HO.out⟩
    rw [HTW.out] at e; cases e
  · rw [show (some (B, cs)).isSome = true from rfl]
    have HI : Hid (MvI w q T B cs.length (T.c.length - T.passed + T.c.flatten.length) w1 { T with work := 0 } cs) := by
      rw [HW1.out]
      exact ⟨HL.out, OK.out.worked 0, HTW.out, rfl, rfl, rfl, List.Perm.refl _, Nat.zero_add _, Nat.zero_le _, rfl, rfl, HO.out⟩
    clear c4 f4
    go_wp2_with fail
    go_loopg [2, 3] (T.c.length - T.passed + T.c.flatten.length) (fun g _ _ wr => ∃ (T' : Tb) (cs' : List (List Nd)), MvI w q T B cs.length g wr T' cs')
    case atStart => exact ⟨_, _, HI.out⟩
    case round =>
      obtain ⟨T', cs', hI⟩ := hrel
      have H := Lib.hid hI
      have d0 := hI.lies.head.first
      have d1 := hI.lies.head.second
      have d2 := hI.lies.head.passed
      have d4 := hI.lies.head.work
      have fr := hI.lies.head.free
      rw [hI.two] at d1
      replace d1 : wr.cell? ⟨q, 1, none⟩ = some (.slice (some ⟨B, 0, none⟩) cs'.length cs'.length) := d1
      have n9 := FF.out.k9
      obtain ⟨n, hn⟩ : ∃ n, T'.c.length = n := ⟨_, rfl⟩
      obtain ⟨p, hp⟩ : ∃ p, T'.passed = p := ⟨_, rfl⟩
      obtain ⟨wk, hwk⟩ : ∃ k, T'.work = k := ⟨_, rfl⟩
      obtain ⟨B1, hB1⟩ : ∃ k, T'.B = k := ⟨_, rfl⟩
      have HN := Lib.hid (And.intro hn (And.intro hp (And.intro hwk hB1)))
      have pn := hI.ok.pass
      have wk8 := hI.work
      rw [← hI.len1, hn] at n9
      rw [hn, hp] at pn
      rw [hwk] at wk8 d4
      rw [hn, hB1] at d0
      rw [hp] at d2
      have g0 := fr 0; have g1 := fr 1; have g2 := fr 2; have g4 := fr 4
      clear hI hn hp hwk hB1 fr
      have n8 : (n : Int) ≤ 1048576 := by omega
      have p0 : (0 : Int) ≤ (p : Int) := by omega
      have w0' : (0 : Int) ≤ (wk : Int) := by omega
      by_cases hlt : p < n
      · have pl : (p : Int) < (n : Int) := by omega
        have LT := Lib.hid hlt
        clear pn hlt
        have CH : Hid (Chain wr ⟨B1, p, none⟩ (chainAt T'.c p)) := by
          show Chain wr ⟨B1, p, none⟩ (chainAt T'.c p)
          have := H.out.lies.a1.at_ (j := p) (by rw [HN.out.1]; exact LT.out)
          rw [HN.out.2.2.2] at this
          exact this
        obtain ⟨ns, hns⟩ : ∃ ns, chainAt T'.c p = ns := ⟨_, rfl⟩
        have HNS := Lib.hid hns
        cases ns with
        | nil =>
          have d5 : wr.cell? ⟨B1, p, none⟩ = some (.pointer none) := by have := CH.out.at_; rw [hns] at this; exact this
          clear hns
          obtain ⟨m1, m2⟩ := H.out.pass (by rw [HN.out.1, HN.out.2.1]; exact LT.out) (by rw [HN.out.2.1]; exact HNS.out)
          have M2 := Lib.hid m2
          have M1 := Lib.hid m1
          clear m1 m2
          rw [HN.out.2.1] at M2
          go_wp2_with fail
          go_region
          go_wp2_with fail
          go_region
          go_wp2_with fail
          go_roundg (gk - 1)
          case measure => exact M1.out
          case rel => exact ⟨_, _, M2.out.below ((Below.refl _ _).drew).drew⟩
        | cons e r =>
          have d5 : wr.cell? ⟨B1, p, none⟩ = some (.pointer (some ⟨e.b, 0, none⟩)) := by have := CH.out.at_; rw [hns] at this; exact this
          have f5 := CH.out.free
          obtain ⟨o, ho⟩ := hd_ptr r
          have d6 : wr.cell? ⟨e.b, 2, none⟩ = some (.pointer o) := by have := CH.out.seg; rw [hns] at this; rw [← ho]; exact this.1.next
          have ebq : e.b ≠ q := H.out.ok.node_q (mem1 (flat_mem (j := p) (by rw [HNS.out]; exact List.mem_cons_self)))
          have qB1 : q ≠ B1 := by rw [← HN.out.2.2.2]; exact Ne.symm H.out.ok.qB
          have HOO := Lib.hid ho
          clear hns ho
          by_cases h8 : wk = 8
          · subst h8
            go_wp2_with fail
            go_region
            go_wp2_with fail
            go_region
            go_wp2_with fail
            have M := H.out.below (((Below.refl _ wr).drew).drew)
            exact ⟨rfl, _, results_none rfl _ _ _, rfl, T', M.lies, M.stay HTW.out HN.out.2.2.1 HNS.out, M.only⟩
          · have h9 : (wk : Int) < 8 := by omega
            have W8 : Hid (T'.work < 8) := by show T'.work < 8; rw [HN.out.2.2.1]; omega
            clear h8
            have k0 : 0 < cs'.length := by rw [H.out.len2]; exact FF.out.j0 B cs HTW.out
            have k9 : cs'.length ≤ 1048576 := by rw [H.out.len2]; exact FF.out.j9 B cs HTW.out
            have hp1 : T'.passed < T'.c.length := by rw [HN.out.1, HN.out.2.1]; exact LT.out
            have hc1 : chainAt T'.c T'.passed = e :: r := by rw [HN.out.2.1]; exact HNS.out
            have HK := Lib.hid (And.intro k0 (And.intro k9 (And.intro hp1 hc1)))
            have cal : Calls Try.prog 35 #[.slice (some ⟨B, 0, none⟩) cs'.length cs'.length, .pointer (some ⟨e.b, 0, none⟩)] ((wr.setCell ⟨B1, p, none⟩ (.pointer o)).drew.drew) fun v w' => v = .returned (.tuple #[]) ∧
                Turn (fun a => a.block ∈ blocks q T' ∧ a.block ≠ q) wr.drew.drew w' ∧ Lies w' q (shift T' T'.passed r B cs' e T'.work) := by
              have z := shift_any (H.out.lies.below (((Below.refl _ wr).drew).drew)) H.out.ok H.out.two hp1 hc1 k0 k9
              rw [HN.out.2.2.2, HN.out.2.1, HOO.out] at z
              rw [HN.out.2.1]
              exact z
            have CA := Lib.hid cal
            clear k0 k9 hp1 hc1 cal
            go_wp2_with fail
            go_region
            go_wp2_with fail
            go_region
            go_wp2_with fail
            go_at_call 35
            refine CA.out.mono ?_
            rintro v w' ⟨rfl, t, L⟩
            have k4 := L.head.work
            have g5 := L.head.free 4
            have M := (H.out.below (((Below.refl _ wr).drew).drew)).shifted HTW.out HK.out.2.2.1 HK.out.2.2.2 HK.out.1 W8.out t L
            replace k4 : w'.cell? ⟨q, 4, none⟩ = some (.int .i64 (wk : Int)) := by rw [k4]; show some (Value.int .i64 (T'.work : Int)) = _; rw [HN.out.2.2.1]
            rw [HN.out.2.2.1] at M
            have MM := Lib.hid M
            clear t L M d0 d1 d2 d4 d5 d6 f5 g0 g1 g2 g4
            go_wp2_with fail
            go_roundg (gk - 1)
            case measure => exact MM.out.1
            case rel => exact MM.out.2
      · have pl : (n : Int) ≤ (p : Int) := by omega
        obtain rfl : p = n := by omega
        obtain ⟨T2, l2, m2, o2⟩ := MvI.stop (H.out.below ((Below.refl _ wr).drew)) HTW.out (by rw [HN.out.1, HN.out.2.1])
        have R2 := Lib.hid (And.intro l2 (And.intro m2 o2))
        clear hlt pn l2 m2 o2
        go_wp2_with fail
        go_region
        go_wp2_with fail
        go_end0
        exact ⟨rfl, T2, R2.out.1, R2.out.2.1, R2.out.2.2⟩
end Go.Proofs.Ytedpanfdkdbblaa
