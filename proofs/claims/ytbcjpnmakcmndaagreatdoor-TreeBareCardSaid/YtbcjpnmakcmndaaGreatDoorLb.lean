/- Texts of one proof behind one another: TcU, TcT, LiftB. -/
import Derived.Test.YtbcjpnmakcmndaaGreatDoorKu
import Derived.Deep.Upon
import Derived.Test.YtbcjpnmakcmndaaGreatDoorLa
import Derived.Test.YtbcjpnmakcmndaaGreatDoorKt
import Derived.Test.YtbcjpnmakcmndaaGreatDoorKa
import Derived.ProofKit
import Derived.OpenShut
import Derived.Carry
/- A row of one's own made of another row's elements: append of all of them to a row that is newly made. -/
namespace Go.Proofs.YtbcjpnmakcmndaaGreatDoor
open Go.RowKit PrM
set_option linter.unusedVariables false
/-- The cells of a row that is in memory. -/
theorem Rd.own_of {w : World} {P : Nat → Prop} : ∀ (x : X) (z : Nat) (A : Option Addr) (off : Nat), (Rd w P x).row z A off → ∃ ys, (Rd w P x).own z ys ∧ (∀ u ∈ ys, u.oneCell' = true) ∧ (A = none → x = .nil) ∧ ∀ p, A = some p → ∀ j u, ys[j]? = some u → w.cell? (p.add (off + j)) = some u
  | .nil, z, A, off, h => ⟨[], rfl, (fun u hu => nomatch hu), fun _ => rfl, fun p _ j u hu => by simp at hu⟩
  | .cons a t, z, A, off, h => by
    obtain ⟨⟨p, cs, rfl, hp, hl, hz, hc, hd⟩, hr⟩ := h
    obtain ⟨r, h1, h2, -, h4⟩ := Rd.own_of t z (some p) (off + z) hr
    refine ⟨cs.toList ++ r, ⟨cs, r, rfl, hz, hd, h1⟩, fun u hu => ?_, (fun e => nomatch e), fun q e j u hu => ?_⟩
    · rcases List.mem_append.1 hu with h | h
      · exact Rd.one_cells a cs hd u h
      · exact h2 u h
    · obtain rfl := Option.some.inj e
      by_cases hj : j < cs.size
      · rw [List.getElem?_append_left (by simpa using hj)] at hu
        exact hc j u (by simpa using hu)
      · rw [List.getElem?_append_right (by simpa using hj), Array.length_toList, hz] at hu
        have := h4 p rfl (j - z) u hu
        rwa [show off + z + (j - z) = off + j by omega] at this
  | .e .., _, _, _, h => h.elim
  | .f .., _, _, _, h => h.elim
  | .s .., _, _, _, h => h.elim
  | .blk _, _, _, _, h => h.elim
/-- A row newly made of no element. -/
theorem ownsRow_zero (w : World) (te : TypeId) (z : Nat) : (w.alloc (.cells #[] te)).ownsRow w.heap.size te z (.slice (some ⟨w.heap.size, 0, none⟩) 0 0) 0 [] :=
  ⟨(Nat.zero_mul z).symm, .inr ⟨w.heap.size, 0, #[], rfl, Nat.le_refl _, Blk.new w #[] te, Nat.le_refl _, Nat.zero_le _, (Nat.zero_mul z).symm, by simp⟩⟩
theorem run_slice_zero (w : World) (ts te : TypeId) (hu : Tryz.prog.underlying ts = some (.slice te)) (ie : TypeInfo) (hie : Tryz.prog.info? te = some ie) :
    (Instr.buildSlice ts 0 #[]).run Tryz.prog w = .ok (.slice (some ⟨w.heap.size, 0, none⟩) 0 0) (w.alloc (.cells #[] te)) := by
  simp [Instr.buildSlice, run_underlying hu, sizeOf, typeInfo, hie, newRow, Instr.fill]
  exact congrArg (fun c => w.alloc (.cells c te)) (Array.eq_empty_of_size_eq_zero (by simp))
theorem wpList_slice_zero {w : World} {ops : Array Oper} {rest : List Oper} {o : Oper} {a : Act} {Q : Exit → Act → World → Prop} (hgd : o.guard = none) (ts te : TypeId) (hu : Tryz.prog.underlying ts = some (.slice te)) (ie : TypeInfo) (hie : Tryz.prog.info? te = some ie)
    (ho : o.op = .buildSlice ts 0 #[])
    (h : wpList Tryz.prog ops Q rest (a.put o.dst (.slice (some ⟨w.heap.size, 0, none⟩) 0 0)) (w.alloc (.cells #[] te))) :
    wpList Tryz.prog ops Q (o :: rest) a w := by
  refine wpList_plain hgd fun K hK => ?_
  unfold Oper.wp execOp
  simp only [ho, Sem.run_bind]
  show Oper.upon Tryz.prog o a K Q (((Instr.buildSlice ts 0 (Array.map _ #[])).run Tryz.prog w).andThen _)
  rw [Array.map_empty, run_slice_zero w ts te hu ie hie]
  exact hK _ _ h
/-- append of all of a row's elements to one that is newly made. -/
theorem wpList_append_all {w : World} {ops : Array Oper} {rest : List Oper} {o : Oper} {a : Act} {Q : Exit → Act → World → Prop} (hgd : o.guard = none) (s x : Operand)
    (ho : o.op = .call { callee := .builtin .append, args := #[s, x], argTypes := #[23, 23] })
    (base : Nat) (p0 : Addr) (hs : a.eval s = .slice (some p0) 0 0) (hown : w.ownsRow base 34 5 (.slice (some p0) 0 0) 0 [])
    {P : Nat → Prop} {l : X} (A : Option Addr) (c : Nat) (hx : a.eval x = .slice A l.len c) (hl : Sl l.len (Rd w P l).row 5 (.slice A l.len c)) (hlen : l.len ≤ 100000) (hb : base ≤ w.heap.size)
    (h : ∀ v' w' ys, w'.ownsRow base 34 5 v' l.len ys → (Rd w P l).own 5 ys → w.grownBy w' (some p0.block) → (v'.ownBlock = some p0.block ∨ v'.ownBlock = some w.heap.size) → wpList Tryz.prog ops Q rest (a.put o.dst v') w') :
    wpList Tryz.prog ops Q (o :: rest) a w := by
  obtain ⟨i, hi, hz, k1, k2⟩ := info_parts infoSt
  obtain ⟨A', c', e, hn, hc, hr⟩ := hl
  obtain ⟨rfl, -, rfl⟩ : A = A' ∧ l.len = l.len ∧ c = c' := by injection e with e1 e2 e3; exact ⟨e1, rfl, e3⟩
  obtain ⟨ys, h1, h2, h3, h4⟩ := Rd.own_of l 5 A 0 hr
  have hy := Rd.own_len l 5 ys h1
  cases A with
  | none =>
    obtain rfl := h3 rfl
    obtain rfl : ys = [] := h1
    obtain rfl := hn rfl
    refine wpList_plain hgd fun K hK => ?_
    have hrun := run_append_nothing (P := Tryz.prog) w 23 23 o.type 34 i Tryz.underlying23 hi (some p0) 0 0 (Nat.le_refl _) (.slice none 0 0) (Src.ofNil w Tryz.underlying23 0)
    have hx : a.eval x = .slice none 0 0 := hx
    unfold Oper.wp
    simp [execOp, ho, resolve, invoke, builtin, hs, hx, hrun, Result.andThen]
    exact hK _ _ (h _ _ [] hown rfl (by first | exact World.grownBy.refl _ _ | exact ⟨rfl, rfl, rfl, Nat.le_refl _, fun _ _ _ => rfl⟩) (.inl rfl))
  | some q =>
    refine wpList_append_own_at w hgd s x 23 ho base 34 i _ 5 88 Tryz.underlying23 hi hz k1 k2 rfl (by decide) _ 0 [] hs hown q l.len c ys hx hy (fun j u hj => by have := h4 q rfl j u hj; rwa [Nat.zero_add] at this) h2 (by unfold maxLen; omega) (by omega) hb fun v' w' g1 g2 _ g4 => ?_
    rw [Nat.zero_add, List.nil_append] at g1
    exact h v' w' ys g1 h1 g2 g4
end Go.Proofs.YtbcjpnmakcmndaaGreatDoor
/- The law TreeBare walked. -/
namespace Go.Proofs.YtbcjpnmakcmndaaGreatDoor
open Go.RowKit PrM
set_option linter.unusedVariables false
set_option linter.unusedSimpArgs false
theorem and15 (k : Int) : ∃ K : Int, bits .and .i64 k 15 = K ∧ 0 ≤ K ∧ K ≤ 15 := by
  have h : (BitVec.ofInt 64 k &&& BitVec.ofInt 64 15).toNat ≤ 15 := by
    rw [BitVec.toNat_and]
    exact Nat.and_le_right
  refine ⟨_, rfl, ?_⟩
  show 0 ≤ IntKind.i64.wrap ((BitVec.ofInt 64 k &&& BitVec.ofInt 64 15).toNat : Int) ∧ IntKind.i64.wrap ((BitVec.ofInt 64 k &&& BitVec.ofInt 64 15).toNat : Int) ≤ 15
  generalize (BitVec.ofInt 64 k &&& BitVec.ofInt 64 15).toNat = z at *
  rw [IntKind.wrap_i64]
  omega
/-- So many blanks. -/
def bl (j : Nat) : ByteArray := ⟨(List.replicate j (32 : UInt8)).toArray⟩
theorem bl_zero : (⟨#[]⟩ : ByteArray) = bl 0 := rfl
theorem bl_size (j : Nat) : (bl j).size = j := by show (List.replicate j (32 : UInt8)).toArray.size = j; simp
theorem bl_next (j : Nat) : bl j ++ ⟨#[32]⟩ = bl (j + 1) := by
  apply ByteArray.ext
  rw [ByteArray.data_append]
  show (List.replicate j (32 : UInt8)).toArray ++ #[32] = (List.replicate (j + 1) (32 : UInt8)).toArray
  rw [List.replicate_succ']
  exact List.push_toArray _ _
theorem bl_front (j : Nat) (s : ByteArray) : (bl j ++ s).data.toList = List.replicate j 32 ++ s.data.toList := by
  rw [ByteArray.data_append, Array.toList_append]; rfl
theorem ie_zero (n : Nat) : ((n : Int) == 0) = decide (n = 0) := by
  by_cases h : n = 0
  · subst h; rfl
  · rw [decide_eq_false h]; simpa using h
theorem snoc_facts {w : World} {P : Nat → Prop} (b : X) : ∀ (x : X) (z : Nat) (ys : List Value), (Rd w P x).own z ys → x.same (x.snoc b) = false ∧ (x.snoc b).count = x.count + b.count
  | .nil, _, _, _ => ⟨rfl, by show b.count + 0 = 0 + b.count; omega⟩
  | .cons a t, z, ys, h => by
    obtain ⟨c1, r, rfl, h1, h2, h3⟩ := h
    obtain ⟨u, v⟩ := snoc_facts b t z r h3
    refine ⟨?_, ?_⟩
    · show (a.same a && t.same (t.snoc b)) = false
      rw [u, Bool.and_false]
    · show a.count + (t.snoc b).count = a.count + t.count + b.count
      rw [v]; omega
  | .e .., _, _, h => h.elim
  | .f .., _, _, h => h.elim
  | .s .., _, _, h => h.elim
  | .blk _, _, _, h => h.elim
theorem fit_len {n : Nat} : ∀ x : X, x.fit n → x.len ≤ n
  | .nil, _ => Nat.zero_le _
  | .cons _ _, h => h.2.2
  | .e .., _ => Nat.zero_le _
  | .f .., _ => Nat.zero_le _
  | .s .., _ => Nat.zero_le _
  | .blk _, _ => Nat.zero_le _
/-- break. -/
def BK : X := .s 9 0 [] .nil .nil
abbrev BC : Array Value := #[.int .i64 9, .int .i64 0, .slice none 0 0, .slice none 0 0, .slice none 0 0]
theorem BK_fit : BK.fit 100000 := ⟨⟨Nat.zero_le _, trivial, trivial⟩, fun p hp => by cases hp⟩
theorem BK_cells (w : World) (P : Nat → Prop) : (Rd w P BK).cells BC := ⟨_, _, _, rfl, strsN _ _, sl_nil _ _ _, sl_nil _ _ _⟩
/-- What is known of the row that is a's and one more, when both appends are done. -/
theorem two_rows {w6 w7 w8 : World} {B : Nat} {L : X} {v7 v8 : Value} {ys : List Value} (hB : B ≤ w6.heap.size)
    (g1 : w7.ownsRow w6.heap.size 34 5 v7 L.len ys) (o : (Rd (w6.alloc (.cells #[] 34)) (fun k => B ≤ k ∧ k < w6.heap.size) L).own 5 ys)
    (g2 : (w6.alloc (.cells #[] 34)).grownBy w7 (some w6.heap.size)) (g4 : v7.ownBlock = some w6.heap.size ∨ v7.ownBlock = some (w6.alloc (.cells #[] 34)).heap.size)
    (k1 : w8.ownsRow w6.heap.size 34 5 v8 (L.len + 1) (ys ++ BC.toList)) (k2 : (w7.alloc (.cells BC 34)).grownBy w8 v7.ownBlock) (k4 : v8.ownBlock = v7.ownBlock ∨ v8.ownBlock = some (w7.alloc (.cells BC 34)).heap.size) :
    Below w6.heap.size w6 w8 ∧ Sl (L.snoc BK).len (Rd w8 (fun k => B ≤ k) (L.snoc BK)).row 5 v8 ∧ L.same (L.snoc BK) = false ∧ (L.snoc BK).count = L.count + 1 := by
  have b6 : Below w6.heap.size w6 (w6.alloc (.cells #[] 34)) := al_below w6 _
  have b7 : Below w6.heap.size w6 w7 := b6.grown g2 b6.size (fun k e => by have := Option.some.inj e; omega)
  have b7' := b7.alloc b7.size (.cells BC 34)
  have h7 : ∀ k, v7.ownBlock = some k → w6.heap.size ≤ k := fun k e => by
    rcases g4 with h | h <;> rw [h] at e <;> have := Option.some.inj e
    · omega
    · have := b6.size; omega
  have b8 : Below w6.heap.size w6 w8 := b7'.grown k2 b7'.size h7
  have o8 : (Rd w8 (fun k => B ≤ k ∧ k < w6.heap.size) L).own 5 ys := by
    exact (Rd.move (Moves.mk (Nat.le_trans g2.size (Nat.le_trans (Nat.le_of_lt (al_lt w7 _)) k2.size)) (fun p hp _ => World.cell?_of_block ((b8.block p.block hp.2).trans (b6.block p.block hp.2).symm)) (fun k hk _ => hk)) L).2.2 _ _ o
  obtain ⟨f1, f2⟩ := snoc_facts BK L 5 ys o8
  have os := Rd.own_snoc L 5 ys BK BC o8 (BK_cells _ _) rfl
  have os2 := (Rd.move (Q := fun k => B ≤ k) (Moves.of_below (Below.refl _ w8) fun k hk _ => hk.1) (L.snoc BK)).2.2 _ _ os
  refine ⟨b8, Rd.of_own k1 os2 (by rw [X.len_snoc]) (fun g e => ?_), f1, f2⟩
  rcases k4 with h | h
  · have := h7 g (h.symm.trans e); omega
  · rw [h] at e; have := Option.some.inj e; have := b7'.size; omega
theorem bc_ones (w : World) : ∀ u ∈ BC.toList, u.oneCell' = true := Rd.one_cells BK BC (BK_cells w fun _ => True)
theorem owns_slice {w : World} {base z n : Nat} {te : TypeId} {v : Value} {ys : List Value} (h : w.ownsRow base te z v n ys) : ∃ A c, v = .slice A n c := by
  rcases h.2 with ⟨rfl, rfl⟩ | ⟨g, cap, cur, rfl, -⟩
  · exact ⟨_, _, rfl⟩
  · exact ⟨_, _, rfl⟩
theorem row_from {w w1 w6 : World} {L : X} {v : Value} (b : Below w1.heap.size w1 w6) (h : Sl L.len (Rd w1 (Lo w) L).row 5 v) :
    Sl L.len (Rd (w6.alloc (.cells #[] 34)) (fun k => w.heap.size ≤ k ∧ k < w6.heap.size) L).row 5 v :=
  (Sl.bel b h).imp (Rd.move (Moves.of_below (al_below w6 _) fun k hk hl => ⟨hk, hl⟩) L).2.1
theorem wrap_add1 (c : Int) : wrap64 (wrap64 c + 1) = wrap64 (c + 1) := by unfold wrap64; omega
theorem bare_twice (x : X) : x.bare.bare.same x.bare = true := by rw [X.bare_bare]; exact same_refl _
/-- The same script with blanks ahead. -/
theorem script_two (s : ByteArray) (k : Nat) (T : List LxM.T) (hs : s.size ≤ 400) (hk : k ≤ 15) (hT : LxM.lex s.data.toList = .ok T) (h0 : (script T).2.code = 0) :
    ∃ M : X, (M.fit 100000 ∧ (script T).1.fit 100000 ∧ (script T).1.len ≤ 5000) ∧ M.bare = (script T).1.bare ∧ (script T).1.same M = (decide (k = 0) || decide ((script T).1.len = 0)) ∧
      ∀ W, Calls Tryz.prog 10 #[.string (bl k ++ s)] W fun e W' => (∃ v, e = .returned (.tuple #[v, .int .i64 0, .int .i64 0]) ∧ Sl M.len (Rd W' (Lo W) M).row 5 v) ∧ Below W.heap.size W W' := by
  have hg := lex_good hT
  have hc := lex_count hT
  have zs : s.data.toList.length = s.size := by simp
  obtain ⟨m1, m2, m3⟩ := script_moved T k hg.1
  have hX : LxM.lex (bl k ++ s).data.toList = .ok (mvT k T) := by rw [bl_front, lex_front, hT]; rfl
  have hl : (mvT k T).length = T.length := by unfold mvT; simp
  refine ⟨(script (mvT k T)).1, ⟨script_fits hX (by omega), script_fits hT (by omega), fit_len _ (script_fit T (fun t ht => Nat.le_trans (lex_short hT t ht) (by decide)) (by omega))⟩, m2, m3, fun W => ?_⟩
  refine (script_any W (bl k ++ s) (by rw [ByteArray.size_append, bl_size]; omega)).mono ?_
  rw [hX]
  rintro e W' ⟨⟨h, -⟩, b⟩
  obtain ⟨v, rfl, hv⟩ := h (m1.trans h0)
  exact ⟨⟨v, rfl, hv⟩, b⟩
set_option maxRecDepth 20000 in
set_option maxHeartbeats 4000000 in
theorem bare_walk (w : World) (s : ByteArray) (n : Int) : Calls Tryz.prog 4 #[.string s, .int .i64 n] w fun en w' => en = .returned (.bool true) ∧ Below w.heap.size w w' := by
  by_cases hs : s.size ≤ 400
  · have HS := Lib.hid hs
    have SA := Lib.hid (script_any w s (Nat.le_trans hs (by decide)))
    have TO := Lib.hid (fun W => told_any W)
    have GD := Lib.hid (fun T => lex_good (l := s.data.toList) (a := T))
    have CT := Lib.hid (fun T => lex_count (l := s.data.toList) (a := T))
    obtain ⟨F, hF⟩ : ∃ F, LxM.lex s.data.toList = F := ⟨_, rfl⟩
    rw [hF] at SA
    have HF := Lib.hid hF
    have i1 : (s.size : Int) ≤ 400 := by omega
    have d1 : decide (400 < s.size) = false := decide_eq_false (by omega)
    clear hF hs
    go_enter Tryz.func4, Tryz.ntmps4
    go_wp2_with fail
    go_at_call 10
    refine SA.out.mono ?_
    rintro en w1 ⟨hm, b1⟩
    have B1 := Lib.hid b1
    have HM := Lib.hid hm
    clear b1 hm
    cases F with
    | bad q =>
      obtain rfl := HM.out
      go_wp2_with (first
        | (go_at_call 9; refine (TO.out _).mono ?_; rintro en w2 ⟨rfl, b⟩; have B2 := Lib.hid (B1.out.trans (b.mono B1.out.size)); clear b))
      go_ret
      exact ⟨rfl, B2.out⟩
    | ok T =>
      by_cases h0 : (script T).2.code = 0
      · obtain ⟨v, rfl, hs⟩ := HM.out.1 h0
        obtain ⟨A, c, rfl⟩ := sl_slice hs
        have HA := Lib.hid hs
        have H0 := Lib.hid h0
        clear hs h0
        obtain ⟨K, hK, hk0, hk1⟩ := and15 n
        obtain ⟨k, rfl⟩ : ∃ k : Nat, K = (k : Int) := ⟨K.toNat, by omega⟩
        go_wp2_with fail
        go_loopw [8, 9] (fun x i wr => ∃ j : Nat, j ≤ k ∧ x = .string (bl j) ∧ i = .int .i64 j ∧ Below w1.heap.size w1 wr) (fun _ i _ => k - (intOf i).toNat)
        case atStart => exact ⟨0, Nat.zero_le _, rfl, rfl, Below.refl _ _⟩
        case round =>
          obtain ⟨j, hj, rfl, rfl, hb⟩ := hrel
          have HB := Lib.hid hb
          have j0 : (0 : Int) ≤ (j : Int) := by omega
          by_cases hlt : j < k
          · have j1 : (j : Int) < (k : Int) := by omega
            clear hb
            have bz := bl_size j
            have c1 : ¬ 9223372036854775807 < (bl j).size + 1 := by omega
            go_wp2_with fail
            rw [bl_next]
            refine ⟨⟨j + 1, hlt, rfl, by simp, HB.out⟩, ?_⟩
            show k - ((j : Int) + 1).toNat < k - (j : Int).toNat
            omega
          · have j1 : ¬ (j : Int) < (k : Int) := by omega
            obtain rfl : j = k := by omega
            obtain ⟨M, ⟨fm, fl, ll⟩, mb, ms, mc⟩ := script_two s j T HS.out (by omega) HF.out H0.out
            have MC := Lib.hid mc
            have LA := Lib.hid (fun W (b : Below w1.heap.size w1 W) => bare_any fl (Sl.bel b HA.out))
            have c2 : ¬ 9223372036854775807 < (bl j).size + s.size := by have := bl_size j; have := HS.out; omega
            clear hb mc
            go_wp2_with fail
            go_at_call 10
            refine (MC.out _).mono ?_
            rintro en w2 ⟨⟨v2, rfl, s2⟩, b2⟩
            obtain ⟨D, d, rfl⟩ := sl_slice s2
            have B2 := Lib.hid (HB.out.trans (b2.mono HB.out.size))
            have HD := Lib.hid s2
            clear s2 b2
            have LM := Lib.hid (fun W (b : Below w2.heap.size w2 W) => bare_any fm (Sl.bel b HD.out))
            have SM := Lib.hid (fun W (b : Below w2.heap.size w2 W) => same_any fl fm (Sl.bel (B2.out.trans (b.mono B2.out.size)) HA.out) (Sl.bel b HD.out))
            obtain ⟨p, hp⟩ : ∃ p, ((j : Int) == 0) = p := ⟨_, rfl⟩
            obtain ⟨q, hq⟩ : ∃ q, (((script T).1.len : Int) == 0) = q := ⟨_, rfl⟩
            have hx : (script T).1.same M = (p || q) := by rw [ms, ← hp, ← hq, ie_zero, ie_zero]
            unfold SR at SM
            obtain ⟨iS, hiS, -⟩ := info_parts infoSt
            have IF := Lib.hid hiS
            have LL := Lib.hid (Nat.le_trans ll (by decide : 5000 ≤ 100000))
            have LM5 := Lib.hid (show (script T).1.len + 1 ≤ 100000 by omega)
            obtain ⟨cx, hcx⟩ : ∃ cx, wrap64 (script T).1.count = cx := ⟨_, rfl⟩
            obtain ⟨cy, hcy⟩ : ∃ cy, wrap64 (cx + 1) = cy := ⟨_, rfl⟩
            have CA := Lib.hid (fun W (b : Below w1.heap.size w1 W) => count_any fl (Sl.bel b HA.out))
            unfold CR at CA
            rw [hcx] at CA
            clear hiS ll
            have FM := Lib.hid fm
            have FL := Lib.hid fl
            have MB := Lib.hid (Lib.hid (show (script T).1.bare.same M.bare = true by rw [mb, same_refl]))
            clear ms fm fl mb
            unfold ES at LA LM
            have hpq : (p = true ∧ (script T).1.same M = true) ∨ (p = false ∧ q = true ∧ (script T).1.same M = true) ∨ (p = false ∧ q = false ∧ (script T).1.same M = false) := by
              rw [hx]; cases p <;> cases q <;> simp
            clear hx
            rcases hpq with ⟨rfl, hx⟩ | ⟨rfl, rfl, hx⟩ | ⟨rfl, rfl, hx⟩
            all_goals
              rw [hx] at SM
              go_wp2_with (first
                | (go_at_call 13; (with_reducible refine (LA.out _ B2.out).mono ?_); rintro en w3 ⟨v3, rfl, s3, b⟩; obtain ⟨A3, c3, rfl⟩ := sl_slice s3; have S3 := Lib.hid s3; have B3 := Lib.hid b; clear s3 b)
                | (go_at_call 13; (with_reducible refine (LM.out _ B3.out).mono ?_); rintro en w4 ⟨v4, rfl, s4, b⟩; obtain ⟨A4, c4, rfl⟩ := sl_slice s4; have B4 := Lib.hid (B3.out.trans (b.mono B3.out.size)); have SB := Lib.hid (same_any (X.fit_bare _ FL.out) (X.fit_bare _ FM.out) (Sl.bel b S3.out) s4); unfold SR at SB; rw [MB.out.out] at SB; clear s4 b)
                | (go_at_call 11; (with_reducible refine SB.out.mono ?_); rintro en w5 ⟨rfl, b⟩; have B5 := Lib.hid (B4.out.trans (b.mono B4.out.size)); clear b)
                | (go_at_call 11; (with_reducible refine (SM.out _ B5.out).mono ?_); rintro en w6 ⟨rfl, b⟩; have B6 := Lib.hid (B5.out.trans (b.mono B5.out.size)); clear b; have UP := Lib.hid (Nat.le_trans B1.out.size (Nat.le_trans B2.out.size B6.out.size)); have OA := Lib.hid (row_from (B2.out.trans (B6.out.mono B2.out.size)) HA.out))
                | (refine wpList_slice_zero rfl 23 34 Tryz.underlying23 _ IF.out rfl ?_)
                | (refine wpList_append_all rfl (.tmp 67) (.tmp 68) rfl w6.heap.size ⟨w6.heap.size, 0, none⟩ rfl (ownsRow_zero w6 _ _) A c rfl OA.out LL.out (Nat.le_of_lt (al_lt w6 _)) ?_; intro v7 w7 ys g1 g3 g2 g4; obtain ⟨A7, c7, rfl⟩ := owns_slice g1; have G1 := Lib.hid g1; have G2 := Lib.hid g2; have G3 := Lib.hid g3; have G4 := Lib.hid g4; have ZA := Lib.hid (ownsRow_only g1 (Only.of_below (F := fun _ => False) (al_below w7 (.cells BC 34))) (fun _ f => f.elim)); have SZ := Lib.hid (Nat.le_trans (Nat.le_of_lt (al_lt w6 (.cells #[] 34))) (Nat.le_trans g2.size (Nat.le_of_lt (al_lt w7 (.cells BC 34))))); clear g1 g2 g3 g4)
                | (at_builtin; refine wpList_append_stat rfl (.tmp 69) (.tmp 71) rfl w6.heap.size (.slice A7 (script T).1.len c7) (script T).1.len ys ?_ ?_ w7.heap.size ?_ (.int .i64 9) (.int .i64 0) (.slice none 0 0) (.slice none 0 0) (.slice none 0 0) ?_ ?_ ?_ ?_ ?_; rfl; exact ZA.out; rfl; exact Blk.new w7 _ _; exact bc_ones w7; exact LL.out; exact SZ.out; intro v8 w8 k1 k2 k4; have RR := Lib.hid (two_rows (B := w.heap.size) UP.out G1.out G3.out G2.out G4.out k1 k2 k4); obtain ⟨A8, c8, rfl⟩ := owns_slice k1; clear k1 k2 k4; obtain ⟨r1, r2, r3, r4⟩ := RR.out; have E8 := Lib.hid (B2.out.trans ((B6.out.trans (r1.mono B6.out.size)).mono B2.out.size)); have FS := Lib.hid (X.fit_snoc _ BK FL.out BK_fit LM5.out); have SC := Lib.hid (fun W (b : Below w8.heap.size w8 W) => same_any FL.out FS.out (Sl.bel (E8.out.trans (b.mono E8.out.size)) HA.out) (Sl.bel b r2)); unfold SR at SC; rw [r3] at SC; have CC := Lib.hid (fun W (b : Below w8.heap.size w8 W) => count_any FS.out (Sl.bel b r2)); unfold CR at CC; rw [r4, ← wrap_add1, hcx, hcy] at CC; clear r1 r2 r3 r4)
                | (go_at_call 9; refine (TO.out _).mono ?_; rintro en w9 ⟨rfl, b⟩; have Y9 := Lib.hid b; clear b)
                | (go_at_call 11; (with_reducible refine (SC.out _ Y9.out).mono ?_); rintro en w10 ⟨rfl, b⟩; have Y10 := Lib.hid (Y9.out.trans (b.mono Y9.out.size)); clear b)
                | (go_at_call 15; (with_reducible refine (CC.out _ Y10.out).mono ?_); rintro en w11 ⟨rfl, b⟩; have Y11 := Lib.hid (Y10.out.trans (b.mono Y10.out.size)); have X11 := Lib.hid (E8.out.trans (Y11.out.mono E8.out.size)); clear b)
                | (go_at_call 15; (with_reducible refine (CA.out _ X11.out).mono ?_); rintro en w12 ⟨rfl, b⟩; have X12 := Lib.hid (X11.out.trans (b.mono X11.out.size)); clear b)
                | (go_at_call 13; (with_reducible refine (LA.out _ X12.out).mono ?_); rintro en w13 ⟨v13, rfl, s13, b⟩; obtain ⟨A13, c13, rfl⟩ := sl_slice s13; have X13 := Lib.hid (X12.out.trans (b.mono X12.out.size)); have BB := Lib.hid (bare_any (X.fit_bare _ FL.out) s13); unfold ES at BB; clear s13 b)
                | (go_at_call 13; (with_reducible refine BB.out.mono ?_); rintro en w14 ⟨v14, rfl, s14, b⟩; obtain ⟨A14, c14, rfl⟩ := sl_slice s14; have X14 := Lib.hid (X13.out.trans (b.mono X13.out.size)); have S14 := Lib.hid s14; clear s14 b)
                | (go_at_call 13; (with_reducible refine (LA.out _ X14.out).mono ?_); rintro en w15 ⟨v15, rfl, s15, b⟩; obtain ⟨A15, c15, rfl⟩ := sl_slice s15; have X15 := Lib.hid (X14.out.trans (b.mono X14.out.size)); have SF := Lib.hid (same_any (X.fit_bare _ (X.fit_bare _ FL.out)) (X.fit_bare _ FL.out) (Sl.bel b S14.out) s15); unfold SR at SF; rw [bare_twice] at SF; clear s15 b)
                | (go_at_call 11; (with_reducible refine SF.out.mono ?_); rintro en w16 ⟨rfl, b⟩; have X16 := Lib.hid (X15.out.trans (b.mono X15.out.size)); clear b))
              go_ret
              exact ⟨rfl, B1.out.trans (X16.out.mono B1.out.size)⟩
      · obtain rfl := HM.out.2 h0
        obtain ⟨cd, hcd⟩ : ∃ cd, (script T).2.code = cd := ⟨_, rfl⟩
        rw [hcd] at h0 ⊢
        have f0 : (cd == 0) = false := by simpa using h0
        go_wp2_with (first
          | (go_at_call 9; refine (TO.out _).mono ?_; rintro en w2 ⟨rfl, b⟩; have B2 := Lib.hid (B1.out.trans (b.mono B1.out.size)); clear b))
        go_ret
        exact ⟨rfl, B2.out⟩
  · have TO := Lib.hid (told_any w)
    have i1 : (400 : Int) < (s.size : Int) := by omega
    have d1 : decide (400 < s.size) = true := decide_eq_true (by omega)
    clear hs
    go_enter Tryz.func4, Tryz.ntmps4
    go_wp2_with (first
      | (go_at_call 9; refine TO.out.mono ?_; rintro en w1 ⟨rfl, b⟩; have B1 := Lib.hid b; clear b))
    go_ret
    exact ⟨rfl, B1.out⟩
end Go.Proofs.YtbcjpnmakcmndaaGreatDoor
/- The ends of the laws' rows: what a law's call leaves where everything below the old heap is as it was. -/
namespace Go.Proofs.YtbcjpnmakcmndaaGreatDoor
open Go.ChangeShapes Go.WideShapes Go.ChangeAt Go.RowKit Go.ChangeMaps

theorem own : ownKnob Tryz.prog.godebug = none := by kernel_rfl
theorem laidOut : laidOutB Tryz.prog = true := by kernel_rfl
theorem post_below {H : Type} {enc : TypeId × Value → H} {P : Program} {f : Func} {s : ChangeSpec} {W W' : World} {args : Array Value} {v : Value} {ds gs : List (DataW H)} {pa : List MemPlace}
    (hW : DataW.Whole enc P f.params.toList s.vars false W args.toList ds gs pa)
    (hres : DataW.TrodAll enc P W' W.heap.size (fun _ => false) false f.resultTypes.toList (v.resultList f.resultTypes.size) (s.fn H (ds ++ gs)).results [])
    (hargs : DataW.TrodAll enc P W' 0 (fun b => decide (b < W.heap.size)) true f.params.toList args.toList (s.fn H (ds ++ gs)).args pa)
    (hvars : DataW.TrodVars enc P W' (fun b => decide (b < W.heap.size)) s.vars (s.fn H (ds ++ gs)).vars [])
    (hb : Below W.heap.size W W') : s.post enc P f false true false false W args v W' :=
  ⟨ds, gs, pa, [], pa, [], hW, hres, hargs, hvars, hb.frame _, fun h => nomatch h⟩
theorem cell_lt {w : World} {p : Addr} {v : Value} (h : w.cell? p = some v) : p.block < w.heap.size := by
  rcases Nat.lt_or_ge p.block w.heap.size with k | k
  · exact k
  · simp [World.cell?, Array.getElem?_eq_none k] at h
end Go.Proofs.YtbcjpnmakcmndaaGreatDoor
