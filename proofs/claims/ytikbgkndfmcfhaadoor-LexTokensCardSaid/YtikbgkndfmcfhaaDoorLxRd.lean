/- Package lex: texts and signs, the end, the whole function (printed by genlxr.py). -/
import Derived.Test.YtikbgkndfmcfhaaDoorLxRa
import Derived.Test.YtikbgkndfmcfhaaDoorLxRb
import Derived.Test.YtikbgkndfmcfhaaDoorLxRw
import Derived.Test.YtikbgkndfmcfhaaDoorLxRn
import Derived.Test.YtikbgkndfmcfhaaDoorLxRc
namespace Go.Proofs.YtikbgkndfmcfhaaDoor
open Go.RowKit
set_option linter.unusedVariables false
set_option maxRecDepth 20000 in
set_option maxHeartbeats 4000000 in
theorem r_pass5 {F : LxM.Ans} {W0 : World} {g tb : Nat} {s : ByteArray} (hs : s.size ≤ 16384) (a : Act) (w : World) (h : JR F W0 g tb s 5 a w) : ∃ rest, findLabel codeR 5 = some rest ∧ rest.wp Tryd.prog (passR F W0 g tb s 5 a w) a w := by
  refine ⟨_, rfl, ?_⟩
  obtain ⟨b, ok, f, k, toks, tc, tv, ⟨U, rfl⟩, ht, rx, hln, rfl, m, hm, rfl, hd, hF⟩ := h
  have RX0 := Lib.hid rx
  have HT := Lib.hid ht
  have HLN := Lib.hid (hln (by decide))
  have KO := Lib.hid rx.rd.kof
  have TX := Lib.hid (text_any w g s f (f + 1) tv m rx.rd rx.hk hs hm)
  have TKQ : Hid (LxM.tk (s.data.toList.drop f) = LxM.tkQ m (s.data.toList.drop (f + 1))) := by
    show LxM.tk (s.data.toList.drop f) = _
    rw [hd]
    unfold LxM.tk
    dsimp only
    rcases hm with rfl | rfl
    · rw [if_neg (by decide), if_neg (by decide), if_pos (.inl rfl)]
    · rw [if_neg (by decide), if_neg (by decide), if_pos (.inr rfl)]
  have HF := Lib.hid hF
  clear rx ht hln hm hd hF
  refine wp_seq (wp_skip ?_)
  go_wp2_with (first
    | (go_at_call 34; refine TX.out.mono ?_; rintro e W1 ⟨t, o, k1, rfl, h0, rd1, gr1, hk1, h01, got⟩; have RX1 := Lib.hid (RX0.out.step rd1 gr1 h01 hk1); have H0 := Lib.hid h0; have GOT := Lib.hid got; have HK := Lib.hid h01; clear h0 got rd1 gr1 hk1 h01; unfold tval)
    | (refine wpList_store_row rfl 31 (.tmp 4) (.tmp 86) rfl tb (tcs t) rfl rfl 31 _ RX1.out.tok sizeT HT.out (one4 _ _ _ _) ?_)
    | (refine wp_store_row 31 (.tmp 4) (.tmp 86) rfl tb (tcs t) rfl rfl 31 _ RX1.out.tok sizeT HT.out (one4 _ _ _ _) ?_))
  go_step3
  exact goesR FrR.mk rfl (RX1.out.row _) ⟨by have := HK.out; omega, t, o, rfl, H0.out, rfl, by rw [TKQ.out]; exact GOT.out, HF.out⟩ KO.out (by have := HK.out; show _ + 2 < _ + 3; omega) (fun _ => HLN.out)
theorem r_first7 {F : LxM.Ans} {W0 : World} {g tb : Nat} {s : ByteArray} (hs : s.size ≤ 16384) (a : Act) (w : World) (h : JR F W0 g tb s 7 a w) (Y : Code) (hY : rest7 = some Y) : Y.wp Tryd.prog (passR F W0 g tb s 7 a w) a w := by
  obtain ⟨X, e, -, hX⟩ := r_pass7 hs a w h
  rw [e] at hY
  injection hY with hY
  subst hY
  exact hX
theorem fall7 {F : LxM.Ans} {W0 : World} {g tb : Nat} {s : ByteArray} (hs : s.size ≤ 16384) (a : Act) (w : World) (a' : Act) (w' : World) (G : JR F W0 g tb s 7 a' w' ∧ mR g s 7 a' w' < mR g s 6 a w) (Y : Code) (hY : rest7 = some Y) : Y.wp Tryd.prog (passR F W0 g tb s 6 a w) a' w' :=
  wp_mono (r_first7 hs _ _ G.1 _ hY) fun e a w q => by cases e <;> first | exact ⟨q.1, Nat.lt_trans q.2 G.2⟩ | exact q
set_option maxRecDepth 20000 in
set_option maxHeartbeats 4000000 in
theorem r_pass6 {F : LxM.Ans} {W0 : World} {g tb : Nat} {s : ByteArray} (hs : s.size ≤ 16384) (a : Act) (w : World) (h : JR F W0 g tb s 6 a w) : ∃ rest, findLabel codeR 6 = some rest ∧ rest.wp Tryd.prog (passR F W0 g tb s 6 a w) a w := by
  refine ⟨_, rfl, ?_⟩
  obtain ⟨b, ok, f, k, toks, tc, tv, ⟨U, rfl⟩, ht, rx, hln, rfl, htk, hF⟩ := h
  have RX0 := Lib.hid rx
  have HT := Lib.hid ht
  have HLN := Lib.hid (hln (by decide))
  have KO := Lib.hid rx.rd.kof
  have TX := Lib.hid (sign_any w g s f tv rx.rd rx.hk hs)
  have TKS := Lib.hid htk
  have HF := Lib.hid hF
  clear rx ht hln htk hF
  refine wp_seq (wp_skip ?_)
  go_wp2_with (first
    | (go_at_call 35; refine TX.out.mono ?_; rintro e W1 ⟨t, o, k1, rfl, h0, rd1, gr1, hk1, h01, got⟩; have RX1 := Lib.hid (RX0.out.step rd1 gr1 h01 hk1); have H0 := Lib.hid h0; have GOT := Lib.hid got; have HK := Lib.hid h01; clear h0 got rd1 gr1 hk1 h01; unfold tval)
    | (refine wpList_store_row rfl 31 (.tmp 4) (.tmp 91) rfl tb (tcs t) rfl rfl 31 _ RX1.out.tok sizeT HT.out (one4 _ _ _ _) ?_)
    | (refine wp_store_row 31 (.tmp 4) (.tmp 91) rfl tb (tcs t) rfl rfl 31 _ RX1.out.tok sizeT HT.out (one4 _ _ _ _) ?_))
  go_step3
  rename_i hK
  refine hK _ _ ?_
  clear hK
  exact fall7 hs _ _ _ _ (goesR FrR.mk rfl (RX1.out.row (tcs t)) ⟨by have := HK.out; omega, t, o, rfl, H0.out, rfl, by rw [TKS.out]; exact GOT.out, HF.out⟩ KO.out (by have := HK.out; show _ + 2 < _ + 3; omega) (fun _ => HLN.out)) _ rfl
set_option maxRecDepth 20000 in
set_option maxHeartbeats 4000000 in
theorem r_pass1 {F : LxM.Ans} {W0 : World} {g tb : Nat} {s : ByteArray} (hs : s.size ≤ 16384) (a : Act) (w : World) (h : JR F W0 g tb s 1 a w) : ∃ rest, findLabel codeR 1 = some rest ∧ rest.wp Tryd.prog (passR F W0 g tb s 1 a w) a w := by
  refine ⟨_, rfl, ?_⟩
  obtain ⟨b, ok, f, k, toks, tc, tv, ⟨U, rfl⟩, ht, rx, hln, hfs, hF⟩ := h
  have RX0 := Lib.hid rx
  have HF := Lib.hid hF
  have HFS := Lib.hid hfs
  have HS := Lib.hid hs
  obtain ⟨c0, c1, c2, c3, f1, f2, f3⟩ := rx.rd.four
  have KA : Hid (∀ o, (w.alloc o).drew.cell? ⟨g, 3, none⟩ = some tv ∧ (w.alloc o).drew.cell? ⟨g, 1, none⟩ = some (.int .i64 (f : Int))) := fun o => ⟨keep_alloc o c3, keep_alloc o c1⟩
  have OWN : Hid (TRow (w.alloc (.cells #[.int .i64 0, .string ⟨#[]⟩, .int .i64 0, .int .i64 (f : Int)] 31)).drew (tb + 1) tv toks) := World.ownsRow.alloc rx.own _
  have NB : Hid ((w.alloc (.cells #[.int .i64 0, .string ⟨#[]⟩, .int .i64 0, .int .i64 (f : Int)] 31)).drew.heap[w.heap.size]? = some (.cells (tcs ⟨0, [], 0, f⟩) 31 (0, 0))) := Blk.new w _ _
  have NS : Hid (tb + 1 ≤ (w.alloc (.cells #[.int .i64 0, .string ⟨#[]⟩, .int .i64 0, .int .i64 (f : Int)] 31)).drew.heap.size) := Nat.le_trans rx.tok.lt ((Below.refl _ w).alloc (Nat.le_refl _) (.cells #[.int .i64 0, .string ⟨#[]⟩, .int .i64 0, .int .i64 (f : Int)] 31)).size
  clear rx ht hln hF hfs hs
  refine wp_seq (wp_skip ?_)
  go_wp2_with fail
  refine wp_region_tail_list (S := (fun W => W.cell? ⟨g, 3, none⟩ = some tv ∧ W.cell? ⟨g, 1, none⟩ = some (.int .i64 (f : Int)))) (by simp) (by kernel_rfl) (by kernel_rfl) ⟨c3, c1⟩ (fun hHeld => ?_)
  simp only [List.dropLast_cons_cons, List.dropLast_singleton, List.getLast_cons_cons, List.getLast_singleton, List.length_cons, List.length_nil, Nat.reduceAdd]
  refine wpAnyH_take (i := 0) (v := ?_) rfl (by kernel_rfl) (by kernel_rfl) (by kernel_rfl) (fun _ _ _ h => h) (Or.inl ⟨by rfl, ?_⟩) hHeld ?_
  rotate_left
  · intro W hSw; obtain ⟨a0, a1⟩ := hSw; go_simp; try with_reducible rfl
  refine wpAnyH_take (i := 1) (v := ?_) rfl (by kernel_rfl) (by kernel_rfl) (by kernel_rfl) (fun _ _ _ h => h) (Or.inl ⟨by rfl, ?_⟩) hHeld ?_
  rotate_left
  · intro W hSw; obtain ⟨a0, a1⟩ := hSw; go_simp; try with_reducible rfl
  refine wpAnyH_take (i := 2) (v := ?_) rfl (by kernel_rfl) (by kernel_rfl) (by kernel_rfl) (fun _ _ _ h => h) (Or.inl ⟨by rfl, ?_⟩) hHeld ?_
  rotate_left
  · intro W hSw; obtain ⟨a0, a1⟩ := hSw; go_simp; try with_reducible rfl
  refine wpAnyH_take (i := 3) (v := ?_) rfl (by kernel_rfl) (by kernel_rfl) (by kernel_rfl) (fun _ _ _ h => h) (Or.inl ⟨by rfl, ?_⟩) hHeld ?_
  rotate_left
  · intro W hSw; obtain ⟨a0, a1⟩ := hSw; go_simp; try with_reducible rfl
  refine wpAnyH_take (i := 4) (v := ?_) rfl (by kernel_rfl) (by kernel_rfl) (by kernel_rfl) (fun _ _ _ h => h) (Or.inl ⟨by rfl, ?_⟩) hHeld ?_
  rotate_left
  · intro W hSw; obtain ⟨a0, a1⟩ := hSw; go_simp; try with_reducible rfl
  refine wpAnyH_take (i := 5) (v := ?_) rfl (by kernel_rfl) (by kernel_rfl) (by kernel_rfl) (fun _ _ _ h => h) (Or.inl ⟨by rfl, ?_⟩) hHeld ?_
  rotate_left
  · intro W hSw; obtain ⟨a0, a1⟩ := hSw; go_simp; try with_reducible rfl
  refine wpAnyH_take (i := 6) (v := ?_) rfl (by kernel_rfl) (by kernel_rfl) (by kernel_rfl) (fun _ _ _ h => h) (Or.inl ⟨by rfl, ?_⟩) hHeld ?_
  rotate_left
  · intro W hSw; obtain ⟨a0, a1⟩ := hSw; go_simp; try with_reducible rfl
  refine wpAnyH_take (i := 7) (v := ?_) rfl (by kernel_rfl) (by kernel_rfl) (by kernel_rfl) (fun _ _ _ h => h) (Or.inl ⟨by rfl, ?_⟩) hHeld ?_
  rotate_left
  · intro W hSw; obtain ⟨a0, a1⟩ := hSw; go_simp; try with_reducible rfl
  refine wpAnyH_take (i := 8) (v := ?_) rfl (by kernel_rfl) (by kernel_rfl) (by kernel_rfl) (fun _ _ _ h => h) (Or.inl ⟨by rfl, ?_⟩) hHeld ?_
  rotate_left
  · intro W hSw; obtain ⟨a0, a1⟩ := hSw; go_simp; try with_reducible rfl
  refine wpAnyH_take (i := 9) (v := ?_) rfl (by kernel_rfl) (by kernel_rfl) (by kernel_rfl) (fun _ _ _ h => h) (Or.inl ⟨by rfl, ?_⟩) hHeld ?_
  rotate_left
  · intro W hSw; obtain ⟨a0, a1⟩ := hSw; go_simp; try with_reducible rfl
  refine wpAnyH_ready (rs := [10]) (by kernel_rfl) (by simp) ?_
  refine AllReadyH.cons rfl (fun K hK => ?_) AllReadyH.nil
  go_simp
  refine hK.out _ _ (KA.out (.cells #[.int .i64 0, .string ⟨#[]⟩, .int .i64 0, .int .i64 (f : Int)] 31)) (fun hHeld1 => ?_)
  clear hK K hHeld
  refine wpAnyH_ready (rs := [11]) (by kernel_rfl) (by simp) ?_
  refine AllReadyH.cons rfl (fun K hK => ?_) AllReadyH.nil
  refine step_append_tok rfl (.tmp 114) (.tmp 120) rfl (tb + 1) tv toks rfl OWN.out _ rfl ⟨0, [], 0, f⟩ 31 (0, 0) NB.out (by have := RX0.out.len; have := RX0.out.hk; have := HS.out; omega) NS.out ?_
  intro v2 w2 own2 g2
  obtain ⟨A2, n2, c2', rfl⟩ := trow_shows own2
  obtain ⟨rd2, tk2, gr2⟩ := RX.parts RX0.out g2
  obtain ⟨y0, y1, y2, y3, y4, y5, y6⟩ := rd2.four
  have RD2 := Lib.hid rd2
  have GR2 := Lib.hid gr2
  have OW2 := Lib.hid own2
  refine hK.out _ _ ⟨y3, y1⟩ (fun hHeld2 => ?_)
  clear hK K hHeld1 own2 g2 rd2 tk2 gr2
  refine wpAnyH_take (i := 12) (v := ?_) rfl (by kernel_rfl) (by kernel_rfl) (by kernel_rfl) (fun _ _ _ h => h) (Or.inl ⟨by rfl, ?_⟩) hHeld2 ?_
  rotate_left
  · intro W hSw; obtain ⟨a0, a1⟩ := hSw; go_simp; try with_reducible rfl
  refine wpAnyH_take (i := 13) (v := ?_) rfl (by kernel_rfl) (by kernel_rfl) (by kernel_rfl) (fun _ _ _ h => h) (Or.inl ⟨by rfl, ?_⟩) hHeld2 ?_
  rotate_left
  · intro W hSw; obtain ⟨a0, a1⟩ := hSw; go_simp; try with_reducible rfl
  refine wpAnyH_done (by kernel_rfl) ?_ _
  refine behind_normal (wpOp_step rfl (fun K hK => ?_))
  go_simp
  refine hK _ _ ?_
  clear hK K
  go_wp2_with fail
  simp only [Exit.jumps]
  go_ret
  refine ⟨true, f, k, _, rfl, RD2.out.put3 _, GR2.out.trans (grown_set _ _ _ _), ?_⟩
  rw [HF.out]
  have hb := RX0.out.htb
  have hg := RX0.out.hg
  have e := HFS.out
  have o3 : TRow w2 (tb + 1) (.slice A2 n2 c2') (toks ++ [⟨0, [], 0, s.size⟩]) := by rw [← e]; exact OW2.out
  have o4 := trow_grown o3 (grown_set w2 g 3 (.slice A2 n2 c2')) (by omega)
  exact ⟨rfl, own_less (b := tb + 1) o4 (by omega)⟩
theorem r_first0 {F : LxM.Ans} {W0 : World} {g tb : Nat} {s : ByteArray} (hs : s.size ≤ 16384) (a : Act) (w : World) (h : JR F W0 g tb s 0 a w) (Y : Code) (hY : restR = some Y) : Y.wp Tryd.prog (passR F W0 g tb s 0 a w) a w := by
  obtain ⟨X, e, -, hX⟩ := r_pass0 hs a w h
  rw [e] at hY
  injection hY with hY
  subst hY
  exact hX
set_option maxRecDepth 20000 in
set_option maxHeartbeats 4000000 in
theorem read_any (W : World) (g : Nat) (s : ByteArray) (h : Rb W g s 0 0 (.slice none 0 0)) (hs : s.size ≤ 16384) (er : Er W) (g1 : 1 < g) :
    Calls Tryd.prog 16 #[.pointer (some ⟨g, 0, none⟩)] W (PR (LxM.lex s.data.toList) W g s) := by
  have hl : s.data.toList.length = s.size := by simp
  have RXI : Hid (RX W g W.heap.size s 0 0 [] #[.int .i64 0, .string ⟨#[]⟩, .int .i64 0, .int .i64 0] (.slice none 0 0) (W.alloc (.cells #[.int .i64 0, .string ⟨#[]⟩, .int .i64 0, .int .i64 0] 31))) :=
    ⟨h.keep ((Below.refl _ W).alloc (Nat.le_refl _) _), Blk.new W _ _, ⟨rfl, .inl ⟨rfl, rfl⟩⟩, below_grown ((Below.refl _ W).alloc (Nat.le_refl _) _) _, Nat.le_refl _, h.lt, Nat.zero_le _, Nat.zero_le _, er, g1⟩
  have HF0 : Hid (LxM.lex s.data.toList = (LxM.lexS s.size (s.data.toList.drop 0)).pre []) := by
    show LxM.lex s.data.toList = _
    rw [LxM.Ans.pre_nil, List.drop_zero, ← hl]; rfl
  generalize LxM.lex s.data.toList = F at *
  have PS : Hid (∀ l a w, JR F W g W.heap.size s l a w → ∃ rest, findLabel codeR l = some rest ∧ rest.wp Tryd.prog (passR F W g W.heap.size s l a w) a w) := fun l a w hj => by
    rcases l with _ | _ | _ | _ | _ | _ | _ | _ | l
    · obtain ⟨X, -, e, hX⟩ := r_pass0 hs a w hj
      exact ⟨.seq .skip X, e, wp_seq (wp_skip hX)⟩
    · exact r_pass1 hs a w hj
    · exact r_pass2 hs a w hj
    · exact r_pass3 hs a w hj
    · exact r_pass4 hs a w hj
    · exact r_pass5 hs a w hj
    · exact r_pass6 hs a w hj
    · obtain ⟨X, -, e, hX⟩ := r_pass7 hs a w hj
      exact ⟨.seq .skip X, e, wp_seq (wp_skip hX)⟩
    · obtain ⟨b, ok, f, k, toks, tc, tv, -, -, -, -, hF⟩ := hj
      exact absurd hF id
  clear h er g1 hl
  go_enter Tryd.func16, Tryd.ntmps16
  go_wp2_with fail
  refine wp_scope_labels (JR F W g W.heap.size s) (mR g s) ?_ PS.out
  go_wp2_with fail
  go_step3
  rename_i hK
  refine hK _ _ ?_
  clear hK
  exact wp_mono (r_first0 hs _ _ ⟨_, _, 0, 0, [], _, _, FrR.mk, rfl, RXI.out, fun h => absurd h (by decide), HF0.out⟩ _ rfl) fun e a w q => by cases e <;> first | exact q.1 | exact q
end Go.Proofs.YtikbgkndfmcfhaaDoor
