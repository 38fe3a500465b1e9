/- The document's own table: Put. -/
import Derived.Test.YtedpanfdkdbblaaTrRef
namespace Go.Proofs.Ytedpanfdkdbblaa
open Go.RowKit
set_option linter.unusedVariables false
theorem infoP : (Try.prog.info? 54).map (fun i => (i.zero, i.size, i.bytes)) = some (some (.agg #[.string ⟨#[]⟩, .int .i64 0]), 2, 24) := by kernel_rfl
/-- append of one pair onto a row of the call's own. -/
theorem wpList_append_pair {w : World} {ops : Array Oper} {rest : List Oper} {o : Oper} {a : Act} {Q : Exit → Act → World → Prop} (hgd : o.guard = none) (s x : Operand)
    (ho : o.op = .call { callee := .builtin .append, args := #[s, x], argTypes := #[26, 26] })
    (B : Nat) (v : Value) (n : Nat) (xs : List Value) (hs : a.eval s = v) (hown : w.ownsRow B 54 2 v n xs) (hB : B ≤ w.heap.size)
    (p : Addr) (c : Nat) (y : List UInt8 × Int) (hx : a.eval x = .slice (some p) 1 c) (hc : ∀ j u, (pcells [y])[j]? = some u → w.cell? (p.add j) = some u) (h63 : n ≤ 1000)
    (h : ∀ v' w', w'.ownsRow B 54 2 v' (n + 1) (xs ++ pcells [y]) → w.grownBy w' v.ownBlock → (v'.ownBlock = v.ownBlock ∨ v'.ownBlock = some w.heap.size) → wpList Try.prog ops Q rest (a.put o.dst v') w') :
    wpList Try.prog ops Q (o :: rest) a w := by
  obtain ⟨i, hi, hz, h1, h2⟩ := info_parts infoP
  exact wpList_append_own_at w hgd s x 26 ho B 54 i _ 2 24 Try.underlying26 hi hz h1 h2 rfl (by decide) v n xs hs hown p 1 c (pcells [y]) hx rfl hc (pcells_one [y]) (by unfold maxLen; omega) (by omega) hB fun v' w' g1 g2 _ g4 => h v' w' g1 g2 g4
theorem pcells_set : ∀ (l : List (List UInt8 × Int)) (k : Nat) (h : k < l.length) (n : Int), (pcells l).set (k * 2 + 1) (.int .i64 n) = pcells (l.set k (l[k].1, n))
  | [], k, h, n => by cases h
  | a :: r, 0, h, n => by simp [pcells]
  | a :: r, k + 1, h, n => by
    have e : (k + 1) * 2 + 1 = (k * 2 + 1) + 2 := by omega
    rw [e]
    simp only [pcells, List.set_cons_succ, List.getElem_cons_succ]
    rw [pcells_set r k (by simpa using h) n]
theorem own_set {w : World} {B n h m c j : Nat} {t : TypeId} {xs : List Value} (o : w.ownsRow B t 2 (.slice (some ⟨h, 0, none⟩) m c) n xs) (u : Value) : (w.setCell ⟨h, j, none⟩ u).ownsRow B t 2 (.slice (some ⟨h, 0, none⟩) m c) n (xs.set j u) := by
  refine ⟨by rw [List.length_set]; exact o.1, ?_⟩
  rcases o.2 with ⟨e, _⟩ | ⟨g, cap, cur, e, hB, hb, hcap, hm, hs, ht⟩
  · cases e
  · injection e with e1 e2 e3
    injection e1 with e1
    injection e1 with e1 _ _
    subst e1
    refine .inr ⟨h, cap, cur.setIfInBounds j u, by rw [e2, e3], hB, by simp [World.setCell, Array.getElem?_modify, hb], hcap, hm, by simpa using hs, ?_⟩
    rw [Array.toList_setIfInBounds, List.take_set, ht]
theorem put_set {l : List (List UInt8 × Int)} {k : Nat} (hk : k < l.length) (hn : (l.map Prod.fst).Nodup) (n : Int) : (l.map fun a => if a.1 = l[k].1 then (l[k].1, n) else a) = l.set k (l[k].1, n) := by
  apply List.ext_getElem
  · simp
  · intro j h1 h2
    have hj : j < l.length := by simpa using h1
    rw [List.getElem_map, List.getElem_set]
    by_cases e : k = j
    · subst e; simp
    · have pw := List.pairwise_iff_getElem.1 hn
      have ne : ¬ l[j].1 = l[k].1 := fun x => by
        rcases Nat.lt_or_ge j k with z | z
        · exact pw j k (by simpa using hj) (by simpa using hk) z (by simpa using x)
        · exact pw k j (by simpa using hk) (by simpa using hj) (by omega) (by simpa using x.symm)
      rw [if_neg ne, if_neg e]
/-- A call of the document's table. -/
def RDoes (f : FuncId) (args : Array Value) (ret : Value) (w : World) (B : Nat) (G : Nat → Prop) (g : Nat) (M : TabM.T) : Prop :=
  Calls Try.prog f args w fun e w' => e = .returned ret ∧ ∃ G', RT w' B G' g M ∧ (∀ k, G' k → G k ∨ (w.heap.size ≤ k ∧ k < w'.heap.size)) ∧ Only G w w'
theorem put_old {w : World} {B : Nat} {G : Nat → Prop} {g : Nat} {M : TabM.T} (R : RT w B G g M) {h c k : Nat} (c0 : w.cell? ⟨g, 0, none⟩ = some (.slice (some ⟨h, 0, none⟩) M.l.length c)) (o : w.ownsRow B 54 2 (.slice (some ⟨h, 0, none⟩) M.l.length c) M.l.length (pcells M.l)) (hg : h ≠ g) (hG : G h) (hk : k < M.l.length) (hn : (M.l.map Prod.fst).Nodup) (n : Int) {s : List UInt8} (e : M.l[k].1 = s) (hget : TabM.get M.l s = some M.l[k].2) :
    RT (w.setCell ⟨h, k * 2 + 1, none⟩ (.int .i64 n)) B G g (TabM.put M s n) ∧ Only G w (w.setCell ⟨h, k * 2 + 1, none⟩ (.int .i64 n)) := by
  have put : TabM.put M s n = { M with l := M.l.set k (M.l[k].1, n) } := by
    unfold TabM.put
    rw [hget]
    dsimp only
    rw [← e, put_set hk hn n]
  rw [put]
  have far : ∀ i, (w.setCell ⟨h, k * 2 + 1, none⟩ (.int .i64 n)).cell? ⟨g, i, none⟩ = w.cell? ⟨g, i, none⟩ := fun i => World.cell?_setCell_other _ _ _ _ fun x => by injection x with x _ _; exact hg x
  refine ⟨⟨⟨_, (far 0).trans c0, ?_, fun b hb => ?_⟩, (far 1).trans R.great, fun i => by rw [World.frozen?_setCell]; exact R.free i, by rw [World.size_setCell]; exact R.lt, R.own, by rw [List.length_set]; exact R.few, R.great9⟩, (Only.refl G w).setCell (.inl hG) _⟩
  · have := own_set (j := k * 2 + 1) o (.int .i64 n)
    rw [pcells_set M.l k hk n] at this
    rw [List.length_set]
    exact this
  · injection hb with hb
    subst hb
    exact ⟨hg, hG⟩
theorem RT.below {w w' : World} {B : Nat} {G : Nat → Prop} {g : Nat} {M : TabM.T} (R : RT w B G g M) (kg : w'.heap[g]? = w.heap[g]?) (kr : ∀ k, G k → k < w.heap.size → w'.heap[k]? = w.heap[k]?) (hs : w.heap.size ≤ w'.heap.size) : RT w' B G g M := by
  obtain ⟨v, hc, ho, hG⟩ := R.row
  refine ⟨⟨v, (World.cell?_of_block kg).trans hc, ?_, hG⟩, (World.cell?_of_block kg).trans R.great, fun i => (World.frozen?_of_block kg).trans (R.free i), Nat.lt_of_lt_of_le R.lt hs, R.own, R.few, R.great9⟩
  refine ⟨ho.1, ?_⟩
  rcases ho.2 with e | ⟨h, cap, cur, e, hB, hb, r⟩
  · exact .inl e
  · exact .inr ⟨h, cap, cur, e, hB, (kr h (hG h (by rw [e]; rfl)).2 (Array.getElem?_eq_some_iff.1 hb).1).trans hb, r⟩
theorem row_slice {w : World} {base n size : Nat} {t : TypeId} {v : Value} {xs : List Value} (h : w.ownsRow base t size v n xs) : ∃ A c, v = .slice A n c := by
  rcases h.2 with ⟨rfl, h0⟩ | ⟨g, cap, cur, rfl, hg, hb, hc, r⟩
  · exact ⟨none, 0, by rw [h0]⟩
  · exact ⟨_, cap, rfl⟩
theorem own_other {w : World} {B n : Nat} {t : TypeId} {v : Value} {xs : List Value} (o : w.ownsRow B t 2 v n xs) {a : Addr} (u : Value) (ha : v.ownBlock ≠ some a.block) : (w.setCell a u).ownsRow B t 2 v n xs := by
  refine ⟨o.1, ?_⟩
  rcases o.2 with e | ⟨h, cap, cur, e, hB, hb, r⟩
  · exact .inl e
  · exact .inr ⟨h, cap, cur, e, hB, (Below.heap_setCell w a u h fun x => ha (by rw [e, ← x]; rfl)).trans hb, r⟩
theorem put_end {w w1 : World} {B : Nat} {G : Nat → Prop} {g : Nat} {M : TabM.T} {s : List UInt8} {x : Int} {v' : Value} (R : RT w B G g M) (ho : Only G w w1) (own1 : w1.ownsRow B 54 2 v' (M.l.length + 1) (pcells M.l ++ pcells [(s, x)]))
    (hv : ∀ k, v'.ownBlock = some k → k ≠ g ∧ (G k ∨ w.heap.size ≤ k)) {u0 u1 : Value} (cg0 : w1.cell? ⟨g, 0, none⟩ = some u0) (cg1 : w1.cell? ⟨g, 1, none⟩ = some u1) (fr : ∀ i, w1.frozen? ⟨g, i, none⟩ = false) (hget : TabM.get M.l s = none) (few : M.l.length ≤ 999) {m : Nat} (hm : m = max (if M.l = [] then 0 else M.great) (M.l.length + 1)) :
    ∃ G', RT ((w1.setCell ⟨g, 0, none⟩ v').setCell ⟨g, 1, none⟩ (.int .i64 (m : Int))) B G' g (TabM.put M s x) ∧ (∀ k, G' k → G k ∨ (w.heap.size ≤ k ∧ k < ((w1.setCell ⟨g, 0, none⟩ v').setCell ⟨g, 1, none⟩ (.int .i64 (m : Int))).heap.size)) ∧ Only G w ((w1.setCell ⟨g, 0, none⟩ v').setCell ⟨g, 1, none⟩ (.int .i64 (m : Int))) := by
  have put : TabM.put M s x = ⟨M.l ++ [(s, x)], m⟩ := by
    unfold TabM.put
    rw [hget, hm]
  have gr9 := R.great9
  rw [put]
  have far : (⟨g, 1, none⟩ : Addr) ≠ ⟨g, 0, none⟩ := fun e => by injection e with _ e _; cases e
  have hvg : v'.ownBlock ≠ some g := fun e => (hv g e).1 rfl
  have own2 := own_other (own_other own1 (a := ⟨g, 0, none⟩) v' hvg) (a := ⟨g, 1, none⟩) (.int .i64 (m : Int)) hvg
  refine ⟨fun k => G k ∨ v'.ownBlock = some k, ⟨⟨v', ?_, ?_, fun k hk => ⟨(hv k hk).1, .inr hk⟩⟩, ?_, fun i => by rw [World.frozen?_setCell, World.frozen?_setCell]; exact fr i, ?_, .inl R.own, by show (M.l ++ [(s, x)]).length ≤ 1000; rw [List.length_append]; exact Nat.succ_le_succ few, ?_⟩, fun k hk => ?_, (ho.setCell (.inl R.own) _).setCell (.inl R.own) _⟩
  · rw [World.cell?_setCell_other _ _ _ _ far]
    exact World.cell?_setCell_same _ _ _ cg0
  · have e : (M.l ++ [(s, x)]).length = M.l.length + 1 := by simp
    rw [e, pcells_append]
    exact own2
  · exact World.cell?_setCell_same (u := u1) _ _ _ (by rw [World.cell?_setCell_other _ _ _ _ (Ne.symm far)]; exact cg1)
  · rw [World.size_setCell, World.size_setCell]
    exact Nat.lt_of_lt_of_le R.lt ho.size
  · show m ≤ 1000
    rw [hm]
    split <;> omega
  · rcases hk with z | z
    · exact .inl z
    · rcases (hv k z).2 with y | y
      · exact .inl y
      · exact .inr ⟨y, by rw [World.size_setCell, World.size_setCell]; exact (own1.lt k z).2⟩
theorem only_grown {G : Nat → Prop} {w W w4 : World} {row : Option Nat} (h : Only G w W) (g : W.grownBy w4 row) (k : ∀ b, row = some b → G b ∨ w.heap.size ≤ b) : Only G w w4 :=
  ⟨g.os.trans h.os, g.tape.trans h.tape, g.output.trans h.output, Nat.le_trans h.size g.size, fun b hb hn => by
    rw [g.block b (Nat.lt_of_lt_of_le hb h.size) (fun e => by rcases k b e.symm with x | x; exact hn x; omega), h.block b hb hn]⟩
theorem app_facts {W w4 : World} {o : Obj} {row : Option Nat} {g : Nat} (gr : (W.alloc o).grownBy w4 row) (hr : row ≠ some g) (gl : g < W.heap.size) (i : Nat) : w4.cell? ⟨g, i, none⟩ = W.cell? ⟨g, i, none⟩ ∧ w4.frozen? ⟨g, i, none⟩ = W.frozen? ⟨g, i, none⟩ := by
  have e : w4.heap[g]? = W.heap[g]? := by
    rw [gr.block g (by show g < (W.heap.push o).size; simp; omega) (fun e => hr e.symm), Below.heap_alloc W o g gl]
  exact ⟨World.cell?_of_block e, World.frozen?_of_block e⟩
theorem cell_pair (W : World) (s : ByteArray) (x : Int) (b : Nat) (hb : b = W.heap.size) (t : TypeId) : ∀ j u, (pcells [(s.data.toList, x)])[j]? = some u → (W.alloc (.cells #[.string s, .int .i64 x] t)).cell? ((⟨b, 0, none⟩ : Addr).add j) = some u := fun j u hu => by
  subst hb
  rw [add0, World.cell?_alloc_new]
  have : (pcells [(s.data.toList, x)])[j]? = (#[.string s, .int .i64 x] : Array Value)[j]? := by
    rcases j with _ | _ | j <;> rfl
  rw [← this]; exact hu
set_option maxRecDepth 20000 in
set_option maxHeartbeats 4000000 in
theorem rput_any (w : World) (B : Nat) (G : Nat → Prop) (g : Nat) (M : TabM.T) (R : RT w B G g M) (hB : B ≤ w.heap.size) (hnd : (M.l.map Prod.fst).Nodup) (s : ByteArray) (x : Int) (hf : M.l.length ≤ 999) :
    RDoes 23 #[.pointer (some ⟨g, 0, none⟩), .string s, .int .i64 x] (pair (TabM.was M.l s.data.toList) (TabM.is M.l s.data.toList)) w B G g (TabM.put M s.data.toList x) := by
  unfold RDoes
  obtain ⟨h, A, c, c0, ow, rr, hG, hh⟩ := R.open_
  have HR := Lib.hid rr
  have RR := Lib.hid R
  have OW := Lib.hid ow
  have HG := Lib.hid hG
  have HH := Lib.hid hh
  have ND := Lib.hid hnd
  have HBB := Lib.hid hB
  have c1 := R.great
  have gr9 := R.great9
  have fg0 := R.free 0
  have fg1 := R.free 1
  have gl := R.lt
  obtain ⟨n, hn⟩ : ∃ n, M.l.length = n := ⟨_, rfl⟩
  obtain ⟨gr, hgr⟩ : ∃ n, M.great = n := ⟨_, rfl⟩
  have HN := Lib.hid hn
  have HGR := Lib.hid hgr
  rw [hn] at c0 hf OW
  rw [hgr] at c1 gr9
  have n9 : (n : Int) ≤ 999 := by omega
  have n0 : (0 : Int) ≤ (n : Int) := by omega
  have g9 : (gr : Int) ≤ 1000 := by omega
  have g0 : (0 : Int) ≤ (gr : Int) := by omega
  have nc : (n : Int) ≤ (c : Int) := by have := rr.le; omega
  have N9 : Hid (n ≤ 999) := hf
  clear R rr hn hgr ow hG hh hnd hB hf gr9
  go_enter Try.func23, Try.ntmps23
  go_wp2_with fail
  go_loop [8] (fun i => ∃ k : Nat, k ≤ n ∧ i = .int .i64 k ∧ ∀ j (hj : j < M.l.length), j < k → M.l[j].1 ≠ s.data.toList) (fun i => n - (intOf i).toNat)
  case atStart => exact ⟨0, Nat.zero_le _, rfl, fun j hj h => absurd h (Nat.not_lt_zero _)⟩
  case round =>
    obtain ⟨k, hk, rfl, hb⟩ := hrel
    have HB := Lib.hid hb
    clear hb
    have k0 : (0 : Int) ≤ (k : Int) := by omega
    by_cases hlt : k < n
    · have k1 : (k : Int) < (n : Int) := by omega
      have hkl : k < M.l.length := by rw [HN.out]; exact hlt
      have hnil := HR.out.nil
      have hle := HR.out.le
      rw [HN.out] at hle
      obtain ⟨rfl, rfl⟩ | rfl := hnil
      · exact absurd hle (by omega)
      · obtain ⟨f1, f2⟩ := HR.out.cells k hkl
        have fz := HR.out.free (by rw [HN.out]; omega) (k * 2 + 1)
        obtain ⟨nm, hnm⟩ : ∃ nm : ByteArray, (⟨M.l[k].1.toArray⟩ : ByteArray) = nm := ⟨_, rfl⟩
        obtain ⟨y, hy⟩ : ∃ y, M.l[k].2 = y := ⟨_, rfl⟩
        have NM : Hid (nm.data.toList = M.l[k].1) := by show nm.data.toList = M.l[k].1; rw [← hnm]
        rw [hnm] at f1
        rw [hy] at f2
        have HY := Lib.hid hy
        have HKL := Lib.hid hkl
        clear hnm hle hy
        cases e : (nm.toList == s.toList)
        · have e' : nm.toList ≠ s.toList := beq_eq_false_iff_ne.1 e
          have E := Lib.hid e'
          clear e'
          go_wp2_with fail
          go_round
          case rel => exact ⟨k + 1, hlt, by go_num, fun j hj hjk => by
            by_cases x : j = k
            · subst x; rw [← NM.out, ← ByteArray.toList_eq, ← ByteArray.toList_eq]; exact E.out
            · exact HB.out j hj (by omega)⟩
          case measure => simp [intOf]; omega
        · have e' : nm.toList = s.toList := beq_iff_eq.1 e
          have es : Hid (M.l[k].1 = s.data.toList) := NM.out.symm.trans (by rw [← ByteArray.toList_eq, ← ByteArray.toList_eq]; exact e')
          have P := Lib.hid (find_at HKL.out HB.out es.out)
          clear e'
          go_wp2_with fail
          go_ret2
          have cc : w.cell? ⟨g, 0, none⟩ = some (.slice (some ⟨h, 0, none⟩) M.l.length c) := by rw [HN.out]; exact c0
          have oo : w.ownsRow B 54 2 (.slice (some ⟨h, 0, none⟩) M.l.length c) M.l.length (pcells M.l) := by rw [HN.out]; exact OW.out
          obtain ⟨r1, r2⟩ := put_old RR.out cc oo (HH.out (by first | rfl | trivial)).1 (HH.out (by first | rfl | trivial)).2.1 HKL.out ND.out x es.out P.out
          exact ⟨by rw [pairS P.out, HY.out]; rfl, G, r1, fun k hk => .inl hk, r2⟩
    · have k1 : (n : Int) ≤ (k : Int) := by omega
      have P := Lib.hid (find_none fun j hj => HB.out j hj (by have := HN.out; omega))
      have avg : (Value.slice A n c).ownBlock ≠ some g := fun e => by
        have e : (Value.slice A M.l.length c).ownBlock = some g := by rw [HN.out]; exact e
        exact (HG.out g e).1 rfl
      have AVG := Lib.hid avg
      clear avg
      by_cases h0 : n = 0
      · subst h0
        have HE : Hid (M.l = []) := List.eq_nil_of_length_eq_zero HN.out
        have OWa : Hid (((w.setCell ⟨g, 1, none⟩ (.int .i64 0)).alloc (.cells #[.string s, .int .i64 x] 54)).ownsRow B 54 2 (.slice A 0 c) 0 (pcells M.l)) := (own_other OW.out _ AVG.out).alloc _
        have WC : Hid (∀ i, i < 2 → (w.setCell ⟨g, 1, none⟩ (.int .i64 0)).cell? ⟨g, i, none⟩ = (#[.slice A 0 c, .int .i64 (0 : Int)] : Array Value)[i]?) := fun i hi => by
          rcases (by omega : i = 0 ∨ i = 1) with rfl | rfl
          · rw [World.cell?_setCell_other _ _ _ _ (fun e => by injection e with _ e _; cases e), c0]; rfl
          · rw [World.cell?_setCell_same _ _ _ c1]; rfl
        have WO : Hid (Only G w (w.setCell ⟨g, 1, none⟩ (.int .i64 0))) := (Only.refl G w).setCell (.inl RR.out.own) _
        go_wp2_with (at_builtin; go_loud (refine wpList_append_pair rfl (.tmp 59) (.tmp 63) rfl B (.slice A 0 c) 0 _ rfl OWa.out (Nat.le_trans HBB.out (Nat.le_of_lt (by have := WO.out.size; simp; try omega))) ⟨w.heap.size, 0, none⟩ _ (s.data.toList, x) rfl (cell_pair _ s x w.heap.size (by rw [World.size_setCell]) _) (by decide) ?_); intro v4 w4 own4 gr4 wh4; obtain ⟨A4, c4, rfl⟩ := row_slice own4; have F4 := Lib.hid (app_facts (g := g) gr4 AVG.out (Nat.lt_of_lt_of_le RR.out.lt WO.out.size)); have O4 := Lib.hid own4; have G4 := Lib.hid gr4; have W4 := Lib.hid wh4; clear own4 gr4 wh4; have d0 : w4.cell? ⟨g, 0, none⟩ = some (.slice A 0 c) := (F4.out 0).1.trans (WC.out 0 (by decide)); have d1 : w4.cell? ⟨g, 1, none⟩ = some (.int .i64 (0 : Int)) := (F4.out 1).1.trans (WC.out 1 (by decide)); have e0 : w4.frozen? ⟨g, 0, none⟩ = false := (F4.out 0).2.trans ((World.frozen?_setCell _ _ _ _).trans (RR.out.free 0)); have e1 : w4.frozen? ⟨g, 1, none⟩ = false := (F4.out 1).2.trans ((World.frozen?_setCell _ _ _ _).trans (RR.out.free 1)))
        go_region
        go_wp2_with fail
        go_ret2
        have only4 : Only G w w4 := only_grown (WO.out.alloc _) G4.out fun k e => .inl (HG.out k (by rw [HN.out]; exact e)).2
        have hv4 : ∀ k, (Value.slice A4 (0 + 1) c4).ownBlock = some k → k ≠ g ∧ (G k ∨ w.heap.size ≤ k) := fun k e => by
          rcases W4.out with z | z
          · have q := HG.out k (by rw [HN.out, ← z]; exact e)
            exact ⟨q.1, .inl q.2⟩
          · rw [z] at e
            injection e with e
            have l1 := WO.out.size
            have l2 : ((w.setCell ⟨g, 1, none⟩ (.int .i64 0)).alloc (.cells #[.string s, .int .i64 x] 54)).heap.size = (w.setCell ⟨g, 1, none⟩ (.int .i64 0)).heap.size + 1 := by show ((w.setCell ⟨g, 1, none⟩ (.int .i64 0)).heap.push _).size = _; simp
            have l3 := RR.out.lt
            exact ⟨by omega, .inr (by omega)⟩
        have own5 : w4.ownsRow B 54 2 (.slice A4 (0 + 1) c4) (M.l.length + 1) (pcells M.l ++ pcells [(s.data.toList, x)]) := by rw [HN.out]; exact O4.out
        obtain ⟨G', r1, r2, r3⟩ := put_end RR.out only4 own5 hv4 d0 d1 (fun i => by rw [(F4.out i).2]; rw [World.frozen?_setCell]; exact RR.out.free i) P.out (by rw [HN.out]; exact N9.out) (m := 1) (by rw [if_pos HE.out, HN.out]; rfl)
        refine ⟨by rw [pairN P.out]; rfl, G', ?_, ?_, ?_⟩
        · exact r1.below rfl (fun _ _ _ => rfl) (Nat.le_refl _)
        · exact r2
        · exact r3.drew
      · have n1 : ¬ (n : Int) = 0 := by omega
        have HE : Hid (¬ M.l = []) := fun e => h0 (by rw [← HN.out, e]; rfl)
        clear h0
        by_cases hg : gr ≤ n
        · have g1 : (gr : Int) < (n : Int) + 1 := by omega
          have gm : max (gr : Int) ((n : Int) + 1) = (n : Int) + 1 := by omega
          have LE := Lib.hid hg
          clear hg
          have OWa : Hid ((w.alloc (.cells #[.string s, .int .i64 x] 54)).ownsRow B 54 2 (.slice A n c) n (pcells M.l)) := OW.out.alloc _
          have WC : Hid (∀ i, i < 2 → w.cell? ⟨g, i, none⟩ = (#[.slice A n c, .int .i64 (gr : Int)] : Array Value)[i]?) := fun i hi => by
            rcases (by omega : i = 0 ∨ i = 1) with rfl | rfl
            · rw [c0]; rfl
            · rw [c1]; rfl
          have WO : Hid (Only G w w) := Only.refl G w
          go_wp2_with (at_builtin; go_loud (refine wpList_append_pair rfl (.tmp 59) (.tmp 63) rfl B (.slice A n c) n _ rfl OWa.out (Nat.le_trans HBB.out (Nat.le_of_lt (by have := WO.out.size; simp; try omega))) ⟨w.heap.size, 0, none⟩ _ (s.data.toList, x) rfl (cell_pair _ s x w.heap.size rfl _) (by have := N9.out; omega) ?_); intro v4 w4 own4 gr4 wh4; obtain ⟨A4, c4, rfl⟩ := row_slice own4; have F4 := Lib.hid (app_facts (g := g) gr4 AVG.out (Nat.lt_of_lt_of_le RR.out.lt WO.out.size)); have O4 := Lib.hid own4; have G4 := Lib.hid gr4; have W4 := Lib.hid wh4; clear own4 gr4 wh4; have d0 : w4.cell? ⟨g, 0, none⟩ = some (.slice A n c) := (F4.out 0).1.trans (WC.out 0 (by decide)); have d1 : w4.cell? ⟨g, 1, none⟩ = some (.int .i64 (gr : Int)) := (F4.out 1).1.trans (WC.out 1 (by decide)); have e0 : w4.frozen? ⟨g, 0, none⟩ = false := (F4.out 0).2.trans (RR.out.free 0); have e1 : w4.frozen? ⟨g, 1, none⟩ = false := (F4.out 1).2.trans (RR.out.free 1))
          go_region
          go_wp2_with fail
          go_ret2
          have only4 : Only G w w4 := only_grown (WO.out.alloc _) G4.out fun k e => .inl (HG.out k (by rw [HN.out]; exact e)).2
          have hv4 : ∀ k, (Value.slice A4 (n + 1) c4).ownBlock = some k → k ≠ g ∧ (G k ∨ w.heap.size ≤ k) := fun k e => by
            rcases W4.out with z | z
            · have q := HG.out k (by rw [HN.out, ← z]; exact e)
              exact ⟨q.1, .inl q.2⟩
            · rw [z] at e
              injection e with e
              have l1 := WO.out.size
              have l2 : (w.alloc (.cells #[.string s, .int .i64 x] 54)).heap.size = w.heap.size + 1 := by show (w.heap.push _).size = _; simp
              have l3 := RR.out.lt
              exact ⟨by omega, .inr (by omega)⟩
          have own5 : w4.ownsRow B 54 2 (.slice A4 (n + 1) c4) (M.l.length + 1) (pcells M.l ++ pcells [(s.data.toList, x)]) := by rw [HN.out]; exact O4.out
          obtain ⟨G', r1, r2, r3⟩ := put_end RR.out only4 own5 hv4 d0 d1 (fun i => by rw [(F4.out i).2]; skip; exact RR.out.free i) P.out (by rw [HN.out]; exact N9.out) (m := (n + 1)) (by rw [if_neg HE.out, HN.out, HGR.out]; have := LE.out; omega)
          refine ⟨by rw [pairN P.out]; rfl, G', ?_, ?_, ?_⟩
          · exact r1.below rfl (fun _ _ _ => rfl) (Nat.le_refl _)
          · exact r2
          · exact r3.drew
        · have g1 : (n : Int) + 1 ≤ (gr : Int) := by omega
          have gm : max (gr : Int) ((n : Int) + 1) = (gr : Int) := by omega
          have LE : Hid (n + 1 ≤ gr) := by show n + 1 ≤ gr; omega
          clear hg
          have OWa : Hid ((w.alloc (.cells #[.string s, .int .i64 x] 54)).ownsRow B 54 2 (.slice A n c) n (pcells M.l)) := OW.out.alloc _
          have WC : Hid (∀ i, i < 2 → w.cell? ⟨g, i, none⟩ = (#[.slice A n c, .int .i64 (gr : Int)] : Array Value)[i]?) := fun i hi => by
            rcases (by omega : i = 0 ∨ i = 1) with rfl | rfl
            · rw [c0]; rfl
            · rw [c1]; rfl
          have WO : Hid (Only G w w) := Only.refl G w
          go_wp2_with (at_builtin; go_loud (refine wpList_append_pair rfl (.tmp 59) (.tmp 63) rfl B (.slice A n c) n _ rfl OWa.out (Nat.le_trans HBB.out (Nat.le_of_lt (by have := WO.out.size; simp; try omega))) ⟨w.heap.size, 0, none⟩ _ (s.data.toList, x) rfl (cell_pair _ s x w.heap.size rfl _) (by have := N9.out; omega) ?_); intro v4 w4 own4 gr4 wh4; obtain ⟨A4, c4, rfl⟩ := row_slice own4; have F4 := Lib.hid (app_facts (g := g) gr4 AVG.out (Nat.lt_of_lt_of_le RR.out.lt WO.out.size)); have O4 := Lib.hid own4; have G4 := Lib.hid gr4; have W4 := Lib.hid wh4; clear own4 gr4 wh4; have d0 : w4.cell? ⟨g, 0, none⟩ = some (.slice A n c) := (F4.out 0).1.trans (WC.out 0 (by decide)); have d1 : w4.cell? ⟨g, 1, none⟩ = some (.int .i64 (gr : Int)) := (F4.out 1).1.trans (WC.out 1 (by decide)); have e0 : w4.frozen? ⟨g, 0, none⟩ = false := (F4.out 0).2.trans (RR.out.free 0); have e1 : w4.frozen? ⟨g, 1, none⟩ = false := (F4.out 1).2.trans (RR.out.free 1))
          go_region
          go_wp2_with fail
          go_ret2
          have only4 : Only G w w4 := only_grown (WO.out.alloc _) G4.out fun k e => .inl (HG.out k (by rw [HN.out]; exact e)).2
          have hv4 : ∀ k, (Value.slice A4 (n + 1) c4).ownBlock = some k → k ≠ g ∧ (G k ∨ w.heap.size ≤ k) := fun k e => by
            rcases W4.out with z | z
            · have q := HG.out k (by rw [HN.out, ← z]; exact e)
              exact ⟨q.1, .inl q.2⟩
            · rw [z] at e
              injection e with e
              have l1 := WO.out.size
              have l2 : (w.alloc (.cells #[.string s, .int .i64 x] 54)).heap.size = w.heap.size + 1 := by show (w.heap.push _).size = _; simp
              have l3 := RR.out.lt
              exact ⟨by omega, .inr (by omega)⟩
          have own5 : w4.ownsRow B 54 2 (.slice A4 (n + 1) c4) (M.l.length + 1) (pcells M.l ++ pcells [(s.data.toList, x)]) := by rw [HN.out]; exact O4.out
          obtain ⟨G', r1, r2, r3⟩ := put_end RR.out only4 own5 hv4 d0 d1 (fun i => by rw [(F4.out i).2]; skip; exact RR.out.free i) P.out (by rw [HN.out]; exact N9.out) (m := gr) (by rw [if_neg HE.out, HN.out, HGR.out]; have := LE.out; omega)
          refine ⟨by rw [pairN P.out]; rfl, G', ?_, ?_, ?_⟩
          · exact r1.below rfl (fun _ _ _ => rfl) (Nat.le_refl _)
          · exact r2
          · exact r3.drew
end Go.Proofs.Ytedpanfdkdbblaa
