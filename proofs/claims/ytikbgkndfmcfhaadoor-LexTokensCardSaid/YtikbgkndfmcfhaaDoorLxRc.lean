/- Package lex: a token that was read (printed by genlxr.py). -/
import Derived.Test.YtikbgkndfmcfhaaDoorLxQ
import Derived.Test.YtikbgkndfmcfhaaDoorTail
import Derived.Deep.RegionHeldLaw
namespace Go.Proofs.YtikbgkndfmcfhaaDoor
open Go.RowKit
set_option linter.unusedVariables false

noncomputable def rest7 : Option Code := match findLabel codeR 7 with | some (.seq _ c) => some c | _ => none
def SS (g tb f : Nat) (tv : Value) (t : LxM.T) (W : World) : Prop := W.cell? ⟨g, 3, none⟩ = some tv ∧ W.cell? ⟨tb, 0, none⟩ = some (.int .i64 t.kind) ∧ W.cell? ⟨tb, 1, none⟩ = some (.string ⟨t.text.toArray⟩) ∧ W.cell? ⟨tb, 2, none⟩ = some (.int .i64 t.n) ∧ W.cell? ⟨tb, 3, none⟩ = some (.int .i64 (f : Int))
theorem trow_shows {w : World} {base : Nat} {v : Value} {l : List LxM.T} (h : TRow w base v l) : ∃ A n c, v = .slice A n c := by
  rcases h.2 with ⟨rfl, _⟩ | ⟨g, cap, cur, rfl, _⟩
  · exact ⟨none, 0, 0, rfl⟩
  · exact ⟨_, _, _, rfl⟩
theorem RX.placed {W0 W : World} {g tb : Nat} {s : ByteArray} {f k : Nat} {toks : List LxM.T} {t : LxM.T} {tv : Value} (h : RX W0 g tb s f k toks (tcs t) tv W) : RX W0 g tb s f k toks (tcs { t with at_ := f }) tv (W.setCell ⟨tb, 3, none⟩ (.int .i64 (f : Int))) := by
  have r := grown_set W tb 3 (.int .i64 (f : Int))
  have htb := h.htb
  have hg := h.hg
  refine ⟨Blk.grown h.rd r (by intro e; have := Option.some.inj e; omega), ?_, trow_grown h.own r (Nat.lt_succ_self _), ?_, htb, hg, h.hk, h.len, h.er, h.g1⟩
  · have q : W.heap[tb]? = _ := h.tok
    show (W.setCell ⟨tb, 3, none⟩ _).heap[tb]? = _
    simp [World.setCell, Array.getElem?_modify, q, tcs]
  · exact ⟨r.os.trans h.gr.os, r.tape.trans h.gr.tape, r.output.trans h.gr.output, Nat.le_trans h.gr.size r.size, fun i hi hne => (r.block i (Nat.lt_of_lt_of_le hi h.gr.size) (fun e => by have := Option.some.inj e; omega)).trans (h.gr.block i hi hne)⟩
theorem tok_cells {W : World} {tb : Nat} {t : LxM.T} (h : Blk W tb (tcs t) 31) : W.cell? ⟨tb, 0, none⟩ = some (.int .i64 t.kind) ∧ W.cell? ⟨tb, 1, none⟩ = some (.string ⟨t.text.toArray⟩) ∧ W.cell? ⟨tb, 2, none⟩ = some (.int .i64 t.n) ∧ W.cell? ⟨tb, 3, none⟩ = some (.int .i64 (t.at_ : Int)) ∧ W.frozen? ⟨tb, 3, none⟩ = false := by
  have h : W.heap[tb]? = _ := h
  simp [World.cell?, World.frozen?, h, tcs]
theorem keep_alloc {W : World} {p : Addr} {v : Value} (o : Obj) (h : W.cell? p = some v) : (W.alloc o).cell? p = some v := by
  have hb := World.block_lt_of_cell? W p h
  exact (World.cell?_of_block (((Below.refl _ W).alloc (Nat.le_refl _) o).block p.block hb)).trans h
/-- Behind an append and the store of the row. -/
theorem RX.parts {W0 W1 w2 : World} {g tb : Nat} {s : ByteArray} {f k : Nat} {toks : List LxM.T} {tc : Array Value} {tv : Value} {o : Obj} (h : RX W0 g tb s f k toks tc tv W1)
    (g2 : (W1.alloc o).drew.grownBy w2 tv.ownBlock) : Rb w2 g s f k tv ∧ Blk w2 tb tc 31 ∧ W0.grownBy w2 (some g) := by
  have b1 : Below W1.heap.size W1 (W1.alloc o).drew := ((Below.refl _ W1).alloc (Nat.le_refl _) o).drew
  have far : ∀ i, i ≤ tb → tv.ownBlock ≠ some i := fun i hi e => by have := (h.own.lt i e).1; omega
  have bl : ∀ i, i ≤ tb → i < W1.heap.size → w2.heap[i]? = W1.heap[i]? := fun i hi hl => (g2.block i (Nat.lt_of_lt_of_le hl b1.size) (fun e => far i hi e.symm)).trans (b1.block i hl)
  have htb := h.htb
  have hg := h.hg
  exact ⟨(bl g (by omega) h.rd.lt).trans h.rd, (bl tb (Nat.le_refl _) h.tok.lt).trans h.tok, ⟨g2.os.trans (b1.os.trans h.gr.os), g2.tape.trans (b1.tape.trans h.gr.tape), g2.output.trans (b1.output.trans h.gr.output), Nat.le_trans h.gr.size (Nat.le_trans b1.size g2.size), fun i hi hne => (bl i (by omega) (Nat.lt_of_lt_of_le hi h.gr.size)).trans (h.gr.block i hi hne)⟩⟩
/-- Behind an append and the store of the row. -/
theorem RX.pushed {W0 W1 w2 : World} {g tb : Nat} {s : ByteArray} {f k : Nat} {toks : List LxM.T} {tc : Array Value} {tv v2 : Value} {t : LxM.T} {o : Obj} (h : RX W0 g tb s f k toks tc tv W1)
    (own2 : TRow w2 (tb + 1) v2 (toks ++ [t])) (g2 : (W1.alloc o).drew.grownBy w2 tv.ownBlock) (hc : toks.length + 1 ≤ k) : RX W0 g tb s f k (toks ++ [t]) tc v2 (w2.setCell ⟨g, 3, none⟩ v2) ∧ Rb w2 g s f k tv ∧ Blk w2 tb tc 31 := by
  obtain ⟨rd2, tok2, gr2⟩ := h.parts g2
  have htb := h.htb
  have hg := h.hg
  have r := grown_set w2 g 3 v2
  exact ⟨⟨rd2.put3 v2, tok2.grown r (by intro e; have := Option.some.inj e; omega), trow_grown own2 r (by omega), gr2.trans r, htb, hg, h.hk, by rw [List.length_append]; exact hc, h.er, h.g1⟩, rd2, tok2⟩
theorem own_less {w : World} {b b' : Nat} {e : TypeId} {z n : Nat} {v : Value} {xs : List Value} (h : w.ownsRow b e z v n xs) (hb : b' ≤ b) : w.ownsRow b' e z v n xs := by
  refine ⟨h.1, ?_⟩
  rcases h.2 with ⟨rfl, h0⟩ | ⟨p, cap, cur, rfl, hp, r⟩
  · exact .inl ⟨rfl, h0⟩
  · exact .inr ⟨p, cap, cur, rfl, Nat.le_trans hb hp, r⟩
set_option maxRecDepth 20000 in
set_option maxHeartbeats 4000000 in
theorem r_pass7 {F : LxM.Ans} {W0 : World} {g tb : Nat} {s : ByteArray} (hs : s.size ≤ 16384) (a : Act) (w : World) (h : JR F W0 g tb s 7 a w) : ∃ rest, rest7 = some rest ∧ findLabel codeR 7 = some (.seq .skip rest) ∧ rest.wp Tryd.prog (passR F W0 g tb s 7 a w) a w := by
  refine ⟨_, rfl, rfl, ?_⟩
  obtain ⟨b, ok, f, k, toks, tc, tv, ⟨U, rfl⟩, ht, rx, hln, hfk, t, o, rfl, h0, rfl, hgot, hF⟩ := h
  have RX0 := Lib.hid rx
  have KO := Lib.hid rx.rd.kof
  have hfs : f < s.size := by have := rx.hk; omega
  have hne : s.data.toList.drop f ≠ [] := by intro e; have := congrArg List.length e; simp at this; omega
  have hle : (s.data.toList.drop f).length = s.size - f := by simp
  cases o with
  | false =>
    have FIN : Hid (F = .bad f) := by
      show F = _
      cases q : LxM.tk (s.data.toList.drop f) with
      | some x => rw [q] at hgot; cases hgot.1
      | none =>
        rw [hF, LxM.lexT_bad _ _ hne q, hle]
        show LxM.Ans.bad (s.size - (s.size - f)) = _
        congr 1; omega
    clear rx ht hfk h0 hgot hF hfs hne hle
    go_wp2_with fail
    simp only [Exit.jumps]
    go_ret
    exact ⟨false, f, k, tv, rfl, RX0.out.rd, RX0.out.gr, by rw [FIN.out]; exact ⟨rfl, rfl⟩⟩
  | true =>
    have FIN : Hid (F = (LxM.lexS s.size (s.data.toList.drop k)).pre (toks ++ [{ t with at_ := f }])) := by
      show F = _
      cases q : LxM.tk (s.data.toList.drop f) with
      | none => rw [q] at hgot; cases hgot
      | some x =>
        obtain ⟨t', r⟩ := x
        rw [q] at hgot
        obtain ⟨-, rfl, rfl⟩ := hgot
        rw [hF, LxM.lexT_ok _ _ _ _ q, LxM.Ans.pre_pre, hle, show s.size - (s.size - f) = f by omega]
    have HL : Hid (toks.length + 1 ≤ k) := by show toks.length + 1 ≤ k; have := hln (by decide); omega
    have RXP := Lib.hid rx.placed
    obtain ⟨c0, c1, c2, c3, f1, f2, f3⟩ := rx.rd.four
    obtain ⟨d0, d1, d2, d3, d4⟩ := tok_cells rx.tok
    obtain ⟨x0, x1, x2, x3, x4⟩ := tok_cells RXP.out.tok
    have x3' : ((w.setCell ⟨tb, 3, none⟩ (.int .i64 (f : Int)))).cell? ⟨g, 3, none⟩ = some tv := RXP.out.rd.four.2.2.2.1
    have S0 : Hid (SS g tb f tv t ((w.setCell ⟨tb, 3, none⟩ (.int .i64 (f : Int))).drew)) := ⟨x3', x0, x1, x2, x3⟩
    have KA : Hid (∀ W o, SS g tb f tv t W → SS g tb f tv t ((W.alloc o).drew)) := fun W o ⟨a0, a1, a2, a3, a4⟩ => ⟨keep_alloc o a0, keep_alloc o a1, keep_alloc o a2, keep_alloc o a3, keep_alloc o a4⟩
    have KB : Hid (∀ W o, SS g tb f tv t W → SS g tb f tv t (W.alloc o)) := fun W o ⟨a0, a1, a2, a3, a4⟩ => ⟨keep_alloc o a0, keep_alloc o a1, keep_alloc o a2, keep_alloc o a3, keep_alloc o a4⟩
    have OWN : Hid (TRow ((w.setCell ⟨tb, 3, none⟩ (.int .i64 (f : Int))).alloc (.cells #[.int .i64 t.kind, .string ⟨t.text.toArray⟩, .int .i64 t.n, .int .i64 (f : Int)] 31)).drew (tb + 1) tv toks) := World.ownsRow.alloc RXP.out.own _
    have NB : Hid (((w.setCell ⟨tb, 3, none⟩ (.int .i64 (f : Int))).alloc (.cells #[.int .i64 t.kind, .string ⟨t.text.toArray⟩, .int .i64 t.n, .int .i64 (f : Int)] 31)).drew.heap[w.heap.size]? = some (.cells (tcs { t with at_ := f }) 31 (0, 0))) := by
      have q := Blk.new (w.setCell ⟨tb, 3, none⟩ (.int .i64 (f : Int))) #[.int .i64 t.kind, .string ⟨t.text.toArray⟩, .int .i64 t.n, .int .i64 (f : Int)] 31
      rw [World.size_setCell] at q
      exact q
    have NS : Hid (tb + 1 ≤ ((w.setCell ⟨tb, 3, none⟩ (.int .i64 (f : Int))).alloc (.cells #[.int .i64 t.kind, .string ⟨t.text.toArray⟩, .int .i64 t.n, .int .i64 (f : Int)] 31)).drew.heap.size) := by
      have q := RXP.out.tok.lt
      exact Nat.le_trans q ((Below.refl _ (w.setCell ⟨tb, 3, none⟩ (.int .i64 (f : Int)))).alloc (Nat.le_refl _) (.cells #[.int .i64 t.kind, .string ⟨t.text.toArray⟩, .int .i64 t.n, .int .i64 (f : Int)] 31)).size
    clear rx ht hfk h0 hgot hF hfs hne hle x0 x1 x2 x3 x4 x3'
    go_wp2_with fail
    refine wp_region_tail_list (S := SS g tb f tv t) (by simp) (by kernel_rfl) (by kernel_rfl) S0.out (fun hHeld => ?_)
    simp only [List.dropLast_cons_cons, List.dropLast_singleton, List.getLast_cons_cons, List.getLast_singleton, List.length_cons, List.length_nil, Nat.reduceAdd]
    refine wpAnyH_take (i := 0) (v := ?_) rfl (by kernel_rfl) (by kernel_rfl) (by kernel_rfl) (fun _ _ _ h => h) (Or.inl ⟨by rfl, ?_⟩) hHeld ?_
    rotate_left
    · intro W hSw; obtain ⟨a0, a1, a2, a3, a4⟩ := hSw; go_simp; try with_reducible rfl
    refine wpAnyH_take (i := 1) (v := ?_) rfl (by kernel_rfl) (by kernel_rfl) (by kernel_rfl) (fun _ _ _ h => h) (Or.inl ⟨by rfl, ?_⟩) hHeld ?_
    rotate_left
    · intro W hSw; obtain ⟨a0, a1, a2, a3, a4⟩ := hSw; go_simp; try with_reducible rfl
    refine wpAnyH_take (i := 2) (v := ?_) rfl (by kernel_rfl) (by kernel_rfl) (by kernel_rfl) (fun _ _ _ h => h) (Or.inl ⟨by rfl, ?_⟩) hHeld ?_
    rotate_left
    · intro W hSw; obtain ⟨a0, a1, a2, a3, a4⟩ := hSw; go_simp; try with_reducible rfl
    refine wpAnyH_take (i := 3) (v := ?_) rfl (by kernel_rfl) (by kernel_rfl) (by kernel_rfl) (fun _ _ _ h => h) (Or.inl ⟨by rfl, ?_⟩) hHeld ?_
    rotate_left
    · intro W hSw; obtain ⟨a0, a1, a2, a3, a4⟩ := hSw; go_simp; try with_reducible rfl
    refine wpAnyH_take (i := 4) (v := ?_) rfl (by kernel_rfl) (by kernel_rfl) (by kernel_rfl) (fun _ _ _ h => h) (Or.inl ⟨by rfl, ?_⟩) hHeld ?_
    rotate_left
    · intro W hSw; obtain ⟨a0, a1, a2, a3, a4⟩ := hSw; go_simp; try with_reducible rfl
    refine wpAnyH_take (i := 5) (v := ?_) rfl (by kernel_rfl) (by kernel_rfl) (by kernel_rfl) (fun _ _ _ h => h) (Or.inl ⟨by rfl, ?_⟩) hHeld ?_
    rotate_left
    · intro W hSw; obtain ⟨a0, a1, a2, a3, a4⟩ := hSw; go_simp; try with_reducible rfl
    refine wpAnyH_ready (rs := [6]) (by kernel_rfl) (by simp) ?_
    refine AllReadyH.cons rfl (fun K hK => ?_) AllReadyH.nil
    go_simp
    refine hK.out _ _ (KA.out (w.setCell ⟨tb, 3, none⟩ (.int .i64 (f : Int))) (.cells #[.int .i64 t.kind, .string ⟨t.text.toArray⟩, .int .i64 t.n, .int .i64 (f : Int)] 31) S0.out) (fun hHeld1 => ?_)
    clear hK K hHeld
    refine wpAnyH_ready (rs := [7]) (by kernel_rfl) (by simp) ?_
    refine AllReadyH.cons rfl (fun K hK => ?_) AllReadyH.nil
    refine step_append_tok rfl (.tmp 104) (.tmp 106) rfl (tb + 1) tv toks rfl OWN.out _ rfl { t with at_ := f } 31 (0, 0) NB.out (by have := HL.out; have := RX0.out.hk; omega) NS.out ?_
    intro v2 w2 own2 g2
    obtain ⟨A2, n2, c2, rfl⟩ := trow_shows own2
    obtain ⟨rx2, rd2, tk2⟩ := RX.pushed RXP.out own2 g2 HL.out
    have RX2 := Lib.hid rx2
    obtain ⟨y0, y1, y2, y3, y4, y5, y6⟩ := rd2.four
    obtain ⟨z0, z1, z2, z3, z4⟩ := tok_cells tk2
    refine hK.out _ _ ⟨y3, z0, z1, z2, z3⟩ (fun hHeld2 => ?_)
    clear hK K hHeld1 own2 g2 rx2 rd2 tk2
    refine wpAnyH_take (i := 8) (v := ?_) rfl (by kernel_rfl) (by kernel_rfl) (by kernel_rfl) (fun _ _ _ h => h) (Or.inl ⟨by rfl, ?_⟩) hHeld2 ?_
    rotate_left
    · intro W hSw; obtain ⟨a0, a1, a2, a3, a4⟩ := hSw; go_simp; try with_reducible rfl
    refine wpAnyH_take (i := 9) (v := ?_) rfl (by kernel_rfl) (by kernel_rfl) (by kernel_rfl) (fun _ _ _ h => h) (Or.inl ⟨by rfl, ?_⟩) hHeld2 ?_
    rotate_left
    · intro W hSw; obtain ⟨a0, a1, a2, a3, a4⟩ := hSw; go_simp; try with_reducible rfl
    refine wpAnyH_done (by kernel_rfl) ?_ _
    refine behind_normal (wpOp_step rfl (fun K hK => ?_))
    go_simp
    refine hK _ _ ?_
    clear hK K
    go_wp2_with fail
    go_step3
    exact goesR FrR.mk rfl RX2.out FIN.out KO.out (by show _ + 1 < _ + 2; omega) (fun h => absurd h (by decide))
end Go.Proofs.YtikbgkndfmcfhaaDoor
