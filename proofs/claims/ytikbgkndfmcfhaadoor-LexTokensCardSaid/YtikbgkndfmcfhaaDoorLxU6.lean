/- The document's own answer: the tokens of a text. -/
import Derived.Test.YtikbgkndfmcfhaaDoorLxU5
import Derived.Test.YtikbgkndfmcfhaaDoorLxU4
import Derived.Test.YtikbgkndfmcfhaaDoorLxJ
namespace Go.Proofs.YtikbgkndfmcfhaaDoor
open Go.RowKit
set_option linter.unusedVariables false
theorem TRow.keep {w w' : World} {base : Nat} {v : Value} {l : List LxM.T} (h : TRow w base v l) (hb : Below w.heap.size w w') : TRow w' base v l := by
  refine ⟨h.1, ?_⟩
  rcases h.2 with ⟨rfl, h0⟩ | ⟨p, cap, cur, rfl, hp, hbk, hc, h4, hs, ht⟩
  · exact .inl ⟨rfl, h0⟩
  · exact .inr ⟨p, cap, cur, rfl, hp, (hb.block p (Array.getElem?_eq_some_iff.1 hbk).1).trans hbk, hc, h4, hs, ht⟩
theorem wpList_append_tok {w : World} {ops : Array Oper} {rest : List Oper} {o : Oper} {a : Act} {Q : Exit → Act → World → Prop} (hgd : o.guard = none) (s x : Operand)
    (ho : o.op = .call { callee := .builtin .append, args := #[s, x], argTypes := #[23, 23] })
    (base : Nat) (v : Value) (l : List LxM.T) (hs : a.eval s = v) (hown : TRow w base v l)
    (b : Nat) (hx : a.eval x = .slice (some ⟨b, 0, none⟩) 1 1) (t : LxM.T) (ty : TypeId) (fr : Nat × Nat) (hu : w.heap[b]? = some (.cells (tcs t) ty fr)) (hlen : l.length ≤ 100000) (hb : base ≤ w.heap.size)
    (h : ∀ v' w', TRow w' base v' (l ++ [t]) → w.grownBy w' v.ownBlock → wpList Tryd.prog ops Q rest (a.put o.dst v') w') :
    wpList Tryd.prog ops Q (o :: rest) a w := by
  obtain ⟨i, hi, hz, k1, k2⟩ := info_parts infoT
  refine wpList_append_own_at w hgd s x 23 ho base 31 i _ 4 40 Tryd.underlying23 hi hz k1 k2 rfl (by decide) v l.length (tcells l) hs hown ⟨b, 0, none⟩ 1 1 (tcs t).toList hx rfl (fun j y hy => ?_) (tcs_one t) (by unfold maxLen; omega) (by omega) hb fun v' w' h2 h3 _ _ => h v' w' (by unfold TRow; rw [tcells_append, List.length_append]; simpa [tcells] using h2) h3
  have hj : j < 4 := by have := (List.getElem?_eq_some_iff.1 hy).1; simpa [tcs] using this
  have e : (⟨b, 0, none⟩ : Addr).add j = ⟨b, j, none⟩ := by unfold Addr.add; split <;> simp_all
  rw [e]
  simp only [World.cell?, hu]
  simpa using hy
theorem blk0 {W : World} {b : Nat} {v0 v1 v2 v3 : Value} {t : TypeId} (h : Blk W b #[v0, v1, v2, v3] t) (u : Value) : Blk (W.setCell ⟨b, 0, none⟩ u) b #[u, v1, v2, v3] t := by
  have h : W.heap[b]? = _ := h
  show (W.setCell ⟨b, 0, none⟩ u).heap[b]? = _
  simp [World.setCell, Array.getElem?_modify, h]
theorem blk1 {W : World} {b : Nat} {v0 v1 v2 v3 : Value} {t : TypeId} (h : Blk W b #[v0, v1, v2, v3] t) (u : Value) : Blk (W.setCell ⟨b, 1, none⟩ u) b #[v0, u, v2, v3] t := by
  have h : W.heap[b]? = _ := h
  show (W.setCell ⟨b, 1, none⟩ u).heap[b]? = _
  simp [World.setCell, Array.getElem?_modify, h]
theorem blk2 {W : World} {b : Nat} {v0 v1 v2 v3 : Value} {t : TypeId} (h : Blk W b #[v0, v1, v2, v3] t) (u : Value) : Blk (W.setCell ⟨b, 2, none⟩ u) b #[v0, v1, u, v3] t := by
  have h : W.heap[b]? = _ := h
  show (W.setCell ⟨b, 2, none⟩ u).heap[b]? = _
  simp [World.setCell, Array.getElem?_modify, h]
/-- Stores into one's own block. -/
theorem below_put {B : Nat} {W W1 : World} (h : Below B W W1) (i : Nat) (u : Value) (b : Nat) (hb : B ≤ b) : Below B W (W1.setCell ⟨b, i, none⟩ u) := h.setCell (p := ⟨b, i, none⟩) hb u
/-- Ahead of an append of a token, and behind it. -/
theorem tail_ok {W wr WF : World} {v : Value} {toks : List LxM.T} (own : TRow wr W.heap.size v toks) (hb : Below W.heap.size W wr) (bf : Below wr.heap.size wr WF) (C : Array Value) (t : LxM.T) (hC : C = tcs t) : TRow (WF.alloc (.cells C 31)) W.heap.size v toks ∧ (WF.alloc (.cells C 31)).heap[WF.heap.size]? = some (.cells (tcs t) 31 (0, 0)) ∧ W.heap.size ≤ (WF.alloc (.cells C 31)).heap.size := by
  subst hC
  exact ⟨(own.keep bf).keep ((Below.refl _ WF).alloc (Nat.le_refl _) _), Blk.new _ _ _, Nat.le_trans (Nat.le_trans hb.size bf.size) (by show WF.heap.size ≤ (WF.heap.push _).size; simp)⟩
theorem tail_below {W wr WF w3 : World} {v : Value} {toks : List LxM.T} {o : Obj} (own : TRow wr W.heap.size v toks) (hb : Below W.heap.size W wr) (bf : Below wr.heap.size wr WF) (g3 : (WF.alloc o).grownBy w3 v.ownBlock) : Below W.heap.size W w3 :=
  ((hb.trans (bf.mono hb.size)).alloc (Nat.le_trans hb.size bf.size) o).grown g3 (Nat.le_trans (Nat.le_trans hb.size bf.size) (by show WF.heap.size ≤ (WF.heap.push _).size; simp)) fun i e => (own.lt i e).1
theorem tail_belowD {W wr WF w3 : World} {v : Value} {toks : List LxM.T} {o : Obj} (own : TRow wr W.heap.size v toks) (hb : Below W.heap.size W wr) (bf : Below wr.heap.size wr WF) (g3 : (WF.alloc o).drew.grownBy w3 v.ownBlock) : Below W.heap.size W w3 :=
  ((hb.trans (bf.mono hb.size)).alloc (Nat.le_trans hb.size bf.size) o).drew.grown g3 (Nat.le_trans (Nat.le_trans hb.size bf.size) (by show WF.heap.size ≤ (WF.heap.push _).size; simp)) fun i e => (own.lt i e).1
theorem blk_set {W : World} {b : Nat} {cs : Array Value} {t : TypeId} (h : Blk W b cs t) (i : Nat) (u : Value) : Blk (W.setCell ⟨b, i, none⟩ u) b (cs.setIfInBounds i u) t := by
  have h : W.heap[b]? = _ := h
  show (W.setCell ⟨b, i, none⟩ u).heap[b]? = _
  simp [World.setCell, Array.getElem?_modify, h]
section
variable {s : ByteArray} {k r : Nat} {c : UInt8} (h : k < s.size) (ec : s[k] = c) (er : rn s k = r)
include h ec
include er in
theorem tk_name' (hl : LxM.lt (LxM.i c) = true) (h32 : r - k ≤ 32) : LxM.tk (s.data.toList.drop k) = some (⟨if LxM.isWord (s.extract k r).data.toList then 1 else 2, (s.extract k r).data.toList, 0, 0⟩, s.data.toList.drop r) := by
  subst ec; subst er; exact tk_name h hl h32
include er in
theorem tk_long' (hl : LxM.lt (LxM.i c) = true) (h32 : 32 < r - k) : LxM.tk (s.data.toList.drop k) = none := by
  subst ec; subst er; exact tk_long h hl h32
include er in
theorem tk_int' (hl : LxM.lt (LxM.i c) = false) (hd : LxM.dg (LxM.i c) = true) : LxM.tk (s.data.toList.drop k) = (LxM.num (s.extract k r).data.toList).map fun v => (⟨3, [], v, 0⟩, s.data.toList.drop r) := by
  subst ec; subst er; exact tk_int h hl hd
theorem tk_str' (hl : LxM.lt (LxM.i c) = false) (hd : LxM.dg (LxM.i c) = false) (hm : c = 34 ∨ c = 39) : LxM.tk (s.data.toList.drop k) = (LxM.qs c (s.data.toList.drop (k + 1))).map fun x => (⟨4, x.1, 0, 0⟩, x.2) := by
  subst ec; exact tk_str h hl hd hm
theorem tk_sign' {n : Nat} (en : sg (s.data.toList.drop k) = n) (hl : LxM.lt (LxM.i c) = false) (hd : LxM.dg (LxM.i c) = false) (hm : ¬ (c = 34 ∨ c = 39)) : LxM.tk (s.data.toList.drop k) = if n = 0 then none else some (⟨5, (s.extract k (k + n)).data.toList, 0, 0⟩, s.data.toList.drop (k + n)) := by
  subst ec; subst en; exact tk_sign h hl hd hm
end
/-- The places go on. -/
theorem lexT_next (s : ByteArray) (k e : Nat) (hk : k ≤ s.size) (t : LxM.T) (toks : List LxM.T) (F : LxM.Ans) (hF : F = (LxM.lexT s.size (s.data.toList.drop k)).pre toks) (ht : LxM.tk (s.data.toList.drop k) = some (t, s.data.toList.drop e)) : F = (LxM.lexT s.size (s.data.toList.drop (sp s e))).pre (toks ++ [{ t with at_ := k }]) := by
  rw [hF, LxM.lexT_ok _ _ _ _ ht, LxM.Ans.pre_pre, sp_drop]
  have : s.size - (s.data.toList.drop k).length = k := by
    rw [List.length_drop]
    have : s.data.toList.length = s.size := by simp
    omega
  rw [this]
  rfl
theorem lexT_none (s : ByteArray) (k : Nat) (hk : k < s.size) (toks : List LxM.T) (F : LxM.Ans) (hF : F = (LxM.lexT s.size (s.data.toList.drop k)).pre toks) (ht : LxM.tk (s.data.toList.drop k) = none) : F = .bad k := by
  have hl : s.data.toList.length = s.size := by simp
  have : s.size - (s.data.toList.drop k).length = k := by rw [List.length_drop]; omega
  rw [hF, LxM.lexT_bad _ _ (by intro e; have := congrArg List.length e; rw [List.length_drop] at this; simp at this; omega) ht, this]
  rfl
/-- What the document's Lex returns. -/
def LRes (F : LxM.Ans) (W : World) (e : Ending) (W' : World) : Prop :=
  (∃ tv err p, e = .returned (.tuple #[tv, .int .i64 err, .int .i64 p]) ∧
    match F with
    | .ok l => err = 0 ∧ p = 0 ∧ TRow W' W.heap.size tv l
    | .bad q => err = 14 ∧ p = (q : Int) ∧ tv = .slice none 0 0) ∧ Below W.heap.size W W'
set_option maxRecDepth 20000 in
set_option maxHeartbeats 8000000 in
theorem rlex_any (W : World) (s : ByteArray) (hs : s.size ≤ 2000) :
    Calls Tryd.prog 10 #[.string s] W (LRes (LxM.lex s.data.toList) W) := by
  have RSK := Lib.hid (fun k (h : k ≤ s.size) w => rskip_any s k w h (by omega))
  have RUN := Lib.hid (fun k (h : k ≤ s.size) w => run_any s k w h (by omega))
  have SZ := Lib.hid hs
  have hs2 : (s.size : Int) ≤ 2000 := by omega
  have R0 := fun w => rskip_any s 0 w (Nat.zero_le _) (by omega)
  have S0 := sp_le s 0
  have F0 : LxM.lex s.data.toList = LxM.lexT s.size (s.data.toList.drop (sp s 0)) := by
    rw [sp_drop, List.drop_zero]
    unfold LxM.lex LxM.lexS
    rw [show s.data.toList.length = s.size by simp]
  generalize sp s 0 = k0 at *
  have R0 : ∀ w, Calls Tryd.prog 17 #[.string s, .int .i64 0] w fun e w' => e = .returned (.int .i64 (k0 : Int)) ∧ w = w' := R0
  have HF0 := Lib.hid F0
  have HS0 := Lib.hid S0
  clear F0 S0 hs
  obtain ⟨F, hF⟩ : ∃ F, LxM.lex s.data.toList = F := ⟨_, rfl⟩
  rw [hF] at HF0 ⊢
  clear hF
  go_enter Tryd.func10, Tryd.ntmps10
  go_wp2_with (go_at_call 17; refine (R0 _).mono ?_; rintro e w' ⟨rfl, rfl⟩)
  clear R0
  go_loopw [5, 6] (fun d i wr => ∃ (k : Nat) (toks : List LxM.T), k ≤ s.size ∧ i = .int .i64 k ∧ toks.length ≤ k ∧ F = (LxM.lexT s.size (s.data.toList.drop k)).pre toks ∧ TRow wr W.heap.size d toks ∧ Below W.heap.size W wr) (fun _ i _ => s.size - (intOf i).toNat)
  case atStart => exact ⟨k0, [], HS0.out, rfl, Nat.zero_le _, by rw [LxM.Ans.pre_nil]; exact HF0.out, ⟨rfl, .inl ⟨rfl, rfl⟩⟩, Below.refl _ _⟩
  case round =>
    obtain ⟨k, toks, hk, rfl, hlen, hF, own, hb⟩ := hrel
    have HF := Lib.hid hF
    have OWN := Lib.hid own
    have HB := Lib.hid hb
    have LEN := Lib.hid hlen
    have k0' : (0 : Int) ≤ (k : Int) := by omega
    clear hF own hb hlen HF0 HS0
    by_cases hlt : k < s.size
    · have k1 : (k : Int) < (s.size : Int) := by omega
      have RK := fun w => RUN.out k hk w
      have rle := rn_le s k hk
      have rge := rn_ge s k
      have RGT := Lib.hid (fun h => rn_gt s k hlt h)
      have LE := fun w => rlet_any s[k] w
      have DI := fun w => rdig_any s[k] w
      have BK0 := Lib.hid (Blk.new wr #[.int .i64 0, .string ⟨#[]⟩, .int .i64 0, .int .i64 0] 31)
      have BX := Lib.hid (below_row ((Below.refl wr.heap.size wr).alloc (Nat.le_refl _) (.cells #[.int .i64 0, .string ⟨#[]⟩, .int .i64 0, .int .i64 0] 31)) wr.heap.size (Nat.le_refl _) #[.int .i64 0, .string ⟨#[]⟩, .int .i64 0, .int .i64 (k : Int)])
      have BR := Lib.hid (box_row wr #[.int .i64 0, .string ⟨#[]⟩, .int .i64 0, .int .i64 0] #[.int .i64 0, .string ⟨#[]⟩, .int .i64 0, .int .i64 (k : Int)])
      obtain ⟨c, ec⟩ : ∃ c, s[k] = c := ⟨_, rfl⟩
      obtain ⟨r, er⟩ : ∃ r, rn s k = r := ⟨_, rfl⟩
      have TKN := Lib.hid (fun h1 h2 => tk_name' hlt ec er h1 h2)
      have TKL := Lib.hid (fun h1 h2 => tk_long' hlt ec er h1 h2)
      have TKI := Lib.hid (fun h1 h2 => tk_int' hlt ec er h1 h2)
      have TKQ := Lib.hid (fun h1 h2 h3 => tk_str' hlt ec h1 h2 h3)
      have TKS := Lib.hid (fun (n : Nat) en h1 h2 h3 => tk_sign' (n := n) hlt ec en h1 h2 h3)
      unfold LxM.wd at RGT
      rw [ec] at LE DI RGT
      rw [er] at RK rle rge RGT
      clear er
      have r0 : (0 : Int) ≤ (r : Int) := by omega
      have r1 : (r : Int) ≤ (s.size : Int) := by omega
      have r2 : (k : Int) ≤ (r : Int) := by omega
      have w1 : wrap64 ((r : Int) - (k : Int)) = (r : Int) - (k : Int) := by unfold wrap64; omega
      obtain ⟨lv, elv⟩ : ∃ lv, LxM.lt (LxM.i c) = lv := ⟨_, rfl⟩
      obtain ⟨dv, edv⟩ : ∃ dv, LxM.dg (LxM.i c) = dv := ⟨_, rfl⟩
      rw [elv] at LE TKN TKL TKI TKQ TKS RGT
      rw [edv] at DI TKI TKQ TKS RGT
      have RSR := Lib.hid (fun w => RSK.out r rle w)
      have spr := sp_le s r
      have spg := sp_ge s r rle
      have NX := Lib.hid (fun t => lexT_next s k r hk t toks F HF.out)
      have NO := Lib.hid (lexT_none s k hlt toks F HF.out)
      clear elv edv
      cases lv
      · cases dv
        · by_cases hm : c = 34 ∨ c = 39
          · have RQ := fun w => rquoted_any s k w c hlt (by omega) ec hm
            have TKQ := TKQ.out rfl rfl hm
            have QLEN : ∀ o rr, LxM.qs c (s.data.toList.drop (k + 1)) = some (o, rr) → rr.length < s.size - (k + 1) := fun o rr h => by
              unfold LxM.qs at h
              have h2 := (Option.filter_eq_some_iff.1 h).1
              have h3 := LxM.qt_len _ _ _ _ _ (Nat.le_refl _) h2
              simpa using h3
            obtain ⟨Q, eQ⟩ : ∃ Q, LxM.qs c (s.data.toList.drop (k + 1)) = Q := ⟨_, rfl⟩
            rw [eQ] at RQ TKQ QLEN
            clear eQ
            have HG : ((c.toNat : Int) == 34) = true ∨ ((c.toNat : Int) == 34) = false ∧ ((c.toNat : Int) == 39) = true := by
              rcases hm with rfl | rfl
              · exact .inl rfl
              · exact .inr ⟨rfl, rfl⟩
            clear hm
            cases Q with
            | none =>
              have TK := Lib.hid TKQ
              unfold QT at RQ
              clear TKQ QLEN
              rcases HG with g1 | ⟨g1, g2⟩
              all_goals
                go_wp2_with (first
                  | (refine wpList_store_row rfl 31 (.tmp 7) (.tmp 25) rfl wr.heap.size #[.int .i64 0, .string ⟨#[]⟩, .int .i64 0, .int .i64 (k : Int)] rfl rfl 31 _ BK0.out sizeT rfl (one4 _ _ _ _) ?_; obtain ⟨w1, hw1, B1, K1⟩ : ∃ w1, w1 = (wr.alloc (.cells #[.int .i64 0, .string ⟨#[]⟩, .int .i64 0, .int .i64 0] 31)).setRow wr.heap.size #[.int .i64 0, .string ⟨#[]⟩, .int .i64 0, .int .i64 (k : Int)] ∧ Hid (Below wr.heap.size wr w1) ∧ Hid (Blk w1 wr.heap.size #[.int .i64 0, .string ⟨#[]⟩, .int .i64 0, .int .i64 (k : Int)] 31) := ⟨_, rfl, BX, BR⟩; rw [← hw1]; clear hw1 BX BR BK0; obtain ⟨⟨c0, c1, c2, c3⟩, f0, f1, f2, f3⟩ := K1.out.four)
                  | (go_at_call 18; with_reducible refine (RK _).mono ?_; rintro e w' ⟨rfl, rfl⟩)
                  | (go_at_call 19; with_reducible refine (LE _).mono ?_; rintro e w' ⟨rfl, rfl⟩)
                  | (go_at_call 20; with_reducible refine (DI _).mono ?_; rintro e w' ⟨rfl, rfl⟩)
                  | (go_at_call 22; with_reducible refine (RQ _).mono ?_; rintro e w2 ⟨⟨t, p, rfl⟩, b2⟩; have B2 := Lib.hid (B1.out.trans (b2.mono B1.out.size)); clear b2))
                go_ret3
                have FB := NO.out TK.out
                rw [FB]
                exact ⟨⟨_, _, _, rfl, rfl, rfl, rfl⟩, HB.out.trans (B2.out.mono HB.out.size)⟩
            | some x =>
              obtain ⟨o, rr⟩ := x
              have TK := Lib.hid TKQ
              have QL := Lib.hid (QLEN o rr rfl)
              unfold QT at RQ
              dsimp only at RQ
              clear TKQ QLEN
              have TO : Hid (∀ WF : World, Below wr.heap.size wr WF → TRow (WF.alloc (.cells #[.int .i64 4, .string ⟨o.toArray⟩, .int .i64 0, .int .i64 (k : Int)] 31)) W.heap.size u5 toks ∧ (WF.alloc (.cells #[.int .i64 4, .string ⟨o.toArray⟩, .int .i64 0, .int .i64 (k : Int)] 31)).heap[WF.heap.size]? = some (.cells (tcs ⟨4, o, 0, k⟩) 31 (0, 0)) ∧ W.heap.size ≤ (WF.alloc (.cells #[.int .i64 4, .string ⟨o.toArray⟩, .int .i64 0, .int .i64 (k : Int)] 31)).heap.size) := fun WF bf => tail_ok OWN.out HB.out bf _ ⟨4, o, 0, k⟩ (by unfold tcs; first | rfl | rw [ba_eta])
              have L5 : Hid (toks.length ≤ 100000) := (by have := LEN.out; omega : toks.length ≤ 100000)
              rcases HG with g1 | ⟨g1, g2⟩
              all_goals
                go_wp2_with (first
                  | (refine wpList_store_row rfl 31 (.tmp 7) (.tmp 25) rfl wr.heap.size #[.int .i64 0, .string ⟨#[]⟩, .int .i64 0, .int .i64 (k : Int)] rfl rfl 31 _ BK0.out sizeT rfl (one4 _ _ _ _) ?_; obtain ⟨w1, hw1, B1, K1⟩ : ∃ w1, w1 = (wr.alloc (.cells #[.int .i64 0, .string ⟨#[]⟩, .int .i64 0, .int .i64 0] 31)).setRow wr.heap.size #[.int .i64 0, .string ⟨#[]⟩, .int .i64 0, .int .i64 (k : Int)] ∧ Hid (Below wr.heap.size wr w1) ∧ Hid (Blk w1 wr.heap.size #[.int .i64 0, .string ⟨#[]⟩, .int .i64 0, .int .i64 (k : Int)] 31) := ⟨_, rfl, BX, BR⟩; rw [← hw1]; clear hw1 BX BR BK0; obtain ⟨⟨c0, c1, c2, c3⟩, f0, f1, f2, f3⟩ := K1.out.four)
                  | (go_at_call 18; with_reducible refine (RK _).mono ?_; rintro e w' ⟨rfl, rfl⟩)
                  | (go_at_call 19; with_reducible refine (LE _).mono ?_; rintro e w' ⟨rfl, rfl⟩)
                  | (go_at_call 20; with_reducible refine (DI _).mono ?_; rintro e w' ⟨rfl, rfl⟩)
                  | (go_at_call 22; with_reducible refine (RQ _).mono ?_; rintro e w2 ⟨⟨p, hp, hrr, rfl⟩, b2⟩; have B2 := Lib.hid (B1.out.trans (b2.mono B1.out.size)); have K2 := Lib.hid (K1.out.keep b2); clear c0 c1 c2 c3 f0 f1 f2 f3 b2; obtain ⟨⟨c0, c1, c2, c3⟩, f0, f1, f2, f3⟩ := K2.out.four; have HRR := Lib.hid hrr; have RSP := Lib.hid (fun w => RSK.out p hp w); have HPP := Lib.hid hp; clear hrr)
                  | (at_builtin; refine wpList_append_tok rfl (.tmp 110) (.tmp 112) rfl W.heap.size u5 toks ?_ ?_ w2.heap.size ?_ ⟨4, o, 0, k⟩ 31 (0, 0) ?_ ?_ ?_ ?_; rfl; exact (TO.out _ (below_put (below_put B2.out 0 (.int .i64 4) wr.heap.size (Nat.le_refl _)) 1 (.string ⟨o.toArray⟩) wr.heap.size (Nat.le_refl _))).1; rfl; (have h := (TO.out _ (below_put (below_put B2.out 0 (.int .i64 4) wr.heap.size (Nat.le_refl _)) 1 (.string ⟨o.toArray⟩) wr.heap.size (Nat.le_refl _))).2.1; (try simp only [World.size_setCell] at h); exact h); exact L5.out; exact (TO.out _ (below_put (below_put B2.out 0 (.int .i64 4) wr.heap.size (Nat.le_refl _)) 1 (.string ⟨o.toArray⟩) wr.heap.size (Nat.le_refl _))).2.2; intro v2 w3 own3 g3; have OWN3 := Lib.hid own3; have B3 := Lib.hid (tail_below OWN.out HB.out (below_put (below_put B2.out 0 (.int .i64 4) wr.heap.size (Nat.le_refl _)) 1 (.string ⟨o.toArray⟩) wr.heap.size (Nat.le_refl _)) g3); clear own3 g3)
                  | (go_at_call 17; with_reducible refine (RSP.out _).mono ?_; rintro e w' ⟨rfl, rfl⟩))
                have spr := sp_le s p
                have spg := sp_ge s p HPP.out
                have kp : k < p := by
                  have h1 := QL.out
                  rw [HRR.out, List.length_drop] at h1
                  have : s.data.toList.length = s.size := by simp
                  omega
                have tk := TK.out
                rw [HRR.out] at tk
                refine ⟨⟨sp s p, toks ++ [⟨4, o, 0, k⟩], spr, rfl, ?_, lexT_next s k p hk _ toks F HF.out tk, OWN3.out, B3.out⟩, ?_⟩
                · have := LEN.out; have := kp; rw [List.length_append]; show toks.length + 1 ≤ _; omega
                · have := kp; show s.size - ((sp s p : Nat) : Int).toNat < s.size - ((k : Int)).toNat; omega
          · have SGL := sg_le hlt
            have RSG := fun w => rsign_any s k w hlt (by omega)
            obtain ⟨n, en⟩ : ∃ n, sg (s.data.toList.drop k) = n := ⟨_, rfl⟩
            have TK := Lib.hid (TKS.out n en rfl rfl hm)
            rw [en] at RSG SGL
            clear en
            have g1 : ((c.toNat : Int) == 34) = false := ne_b 34 rfl (fun e => hm (.inl e))
            have g2 : ((c.toNat : Int) == 39) = false := ne_b 39 rfl (fun e => hm (.inr e))
            clear hm
            by_cases n0 : n = 0
            · have g3 : ((n : Int) == 0) = true := by rw [n0]; rfl
              have TK2 := Lib.hid (show LxM.tk (s.data.toList.drop k) = none by rw [TK.out, if_pos n0])
              go_wp2_with (first
                | (refine wpList_store_row rfl 31 (.tmp 7) (.tmp 25) rfl wr.heap.size #[.int .i64 0, .string ⟨#[]⟩, .int .i64 0, .int .i64 (k : Int)] rfl rfl 31 _ BK0.out sizeT rfl (one4 _ _ _ _) ?_; obtain ⟨w1, hw1, B1, K1⟩ : ∃ w1, w1 = (wr.alloc (.cells #[.int .i64 0, .string ⟨#[]⟩, .int .i64 0, .int .i64 0] 31)).setRow wr.heap.size #[.int .i64 0, .string ⟨#[]⟩, .int .i64 0, .int .i64 (k : Int)] ∧ Hid (Below wr.heap.size wr w1) ∧ Hid (Blk w1 wr.heap.size #[.int .i64 0, .string ⟨#[]⟩, .int .i64 0, .int .i64 (k : Int)] 31) := ⟨_, rfl, BX, BR⟩; rw [← hw1]; clear hw1 BX BR BK0; obtain ⟨⟨c0, c1, c2, c3⟩, f0, f1, f2, f3⟩ := K1.out.four)
                | (go_at_call 18; with_reducible refine (RK _).mono ?_; rintro e w' ⟨rfl, rfl⟩)
                | (go_at_call 19; with_reducible refine (LE _).mono ?_; rintro e w' ⟨rfl, rfl⟩)
                | (go_at_call 20; with_reducible refine (DI _).mono ?_; rintro e w' ⟨rfl, rfl⟩)
                | (go_at_call 23; with_reducible refine (RSG _).mono ?_; rintro e w2 ⟨rfl, b2⟩; have B2 := Lib.hid (B1.out.trans (b2.mono B1.out.size)); have K2 := Lib.hid (K1.out.keep b2); clear c0 c1 c2 c3 f0 f1 f2 f3 b2; obtain ⟨⟨c0, c1, c2, c3⟩, f0, f1, f2, f3⟩ := K2.out.four))
              go_ret3
              have FB := NO.out TK2.out
              rw [FB]
              exact ⟨⟨_, _, _, rfl, rfl, rfl, rfl⟩, HB.out.trans (B2.out.mono HB.out.size)⟩
            · have g3 : ((n : Int) == 0) = false := by rw [beq_eq_false_iff_ne]; omega
              have TK2 := Lib.hid (show LxM.tk (s.data.toList.drop k) = _ by rw [TK.out, if_neg n0])
              obtain ⟨q, eq⟩ : ∃ q, k + n = q := ⟨_, rfl⟩
              rw [eq] at TK2 SGL
              have wq : wrap64 ((k : Int) + (n : Int)) = (q : Int) := by unfold wrap64; omega
              have iq : IntKind.i64.wrap ((k : Int) + (n : Int)) = (q : Int) := by rw [IntKind.wrap_i64]; omega
              have q0 : (0 : Int) ≤ (q : Int) := by omega
              have q1 : (q : Int) ≤ (s.size : Int) := by omega
              have q2 : (k : Int) ≤ (q : Int) := by omega
              have RSP := Lib.hid (fun w => RSK.out q SGL w)
              go_wp2_with (first
                | (refine wpList_store_row rfl 31 (.tmp 7) (.tmp 25) rfl wr.heap.size #[.int .i64 0, .string ⟨#[]⟩, .int .i64 0, .int .i64 (k : Int)] rfl rfl 31 _ BK0.out sizeT rfl (one4 _ _ _ _) ?_; obtain ⟨w1, hw1, B1, K1⟩ : ∃ w1, w1 = (wr.alloc (.cells #[.int .i64 0, .string ⟨#[]⟩, .int .i64 0, .int .i64 0] 31)).setRow wr.heap.size #[.int .i64 0, .string ⟨#[]⟩, .int .i64 0, .int .i64 (k : Int)] ∧ Hid (Below wr.heap.size wr w1) ∧ Hid (Blk w1 wr.heap.size #[.int .i64 0, .string ⟨#[]⟩, .int .i64 0, .int .i64 (k : Int)] 31) := ⟨_, rfl, BX, BR⟩; rw [← hw1]; clear hw1 BX BR BK0; obtain ⟨⟨c0, c1, c2, c3⟩, f0, f1, f2, f3⟩ := K1.out.four)
                | (go_at_call 18; with_reducible refine (RK _).mono ?_; rintro e w' ⟨rfl, rfl⟩)
                | (go_at_call 19; with_reducible refine (LE _).mono ?_; rintro e w' ⟨rfl, rfl⟩)
                | (go_at_call 20; with_reducible refine (DI _).mono ?_; rintro e w' ⟨rfl, rfl⟩)
                | (go_at_call 23; with_reducible refine (RSG _).mono ?_; rintro e w2 ⟨rfl, b2⟩; have B2 := Lib.hid (B1.out.trans (b2.mono B1.out.size)); have K2 := Lib.hid (K1.out.keep b2); clear c0 c1 c2 c3 f0 f1 f2 f3 b2; obtain ⟨⟨c0, c1, c2, c3⟩, f0, f1, f2, f3⟩ := K2.out.four))
              go_region
              have spr := sp_le s q
              have spg := sp_ge s q SGL
              have kp : k < q := by omega
              have TO : Hid (∀ WF : World, Below wr.heap.size wr WF → TRow (WF.alloc (.cells #[.int .i64 5, .string (s.extract k q), .int .i64 0, .int .i64 (k : Int)] 31)) W.heap.size u5 toks ∧ (WF.alloc (.cells #[.int .i64 5, .string (s.extract k q), .int .i64 0, .int .i64 (k : Int)] 31)).heap[WF.heap.size]? = some (.cells (tcs ⟨5, (s.extract k q).data.toList, 0, k⟩) 31 (0, 0)) ∧ W.heap.size ≤ (WF.alloc (.cells #[.int .i64 5, .string (s.extract k q), .int .i64 0, .int .i64 (k : Int)] 31)).heap.size) := fun WF bf => tail_ok OWN.out HB.out bf _ ⟨5, (s.extract k q).data.toList, 0, k⟩ (by unfold tcs; first | rfl | rw [ba_eta])
              have L5 : Hid (toks.length ≤ 100000) := (by have := LEN.out; omega : toks.length ≤ 100000)
              go_wp2_with (first
                | (at_builtin; refine wpList_append_tok rfl (.tmp 110) (.tmp 112) rfl W.heap.size u5 toks ?_ ?_ w2.heap.size ?_ ⟨5, (s.extract k q).data.toList, 0, k⟩ 31 (0, 0) ?_ ?_ ?_ ?_; rfl; exact (TO.out _ (below_put (below_put B2.out 0 (.int .i64 5) wr.heap.size (Nat.le_refl _)) 1 (.string (s.extract k q)) wr.heap.size (Nat.le_refl _))).1; rfl; (have h := (TO.out _ (below_put (below_put B2.out 0 (.int .i64 5) wr.heap.size (Nat.le_refl _)) 1 (.string (s.extract k q)) wr.heap.size (Nat.le_refl _))).2.1; (try simp only [World.size_setCell] at h); exact h); exact L5.out; exact (TO.out _ (below_put (below_put B2.out 0 (.int .i64 5) wr.heap.size (Nat.le_refl _)) 1 (.string (s.extract k q)) wr.heap.size (Nat.le_refl _))).2.2; intro v2 w3 own3 g3; have OWN3 := Lib.hid own3; have B3 := Lib.hid (tail_belowD OWN.out HB.out (below_put (below_put B2.out 0 (.int .i64 5) wr.heap.size (Nat.le_refl _)) 1 (.string (s.extract k q)) wr.heap.size (Nat.le_refl _)) g3); clear own3 g3)
                | (go_at_call 17; with_reducible refine (RSP.out _).mono ?_; rintro e w' ⟨rfl, rfl⟩))
              refine ⟨⟨sp s q, toks ++ [⟨5, (s.extract k q).data.toList, 0, k⟩], spr, rfl, ?_, lexT_next s k q hk _ toks F HF.out TK2.out, OWN3.out, B3.out⟩, ?_⟩
              · have := LEN.out; have := kp; rw [List.length_append]; show toks.length + 1 ≤ _; omega
              · have := kp; show s.size - ((sp s q : Nat) : Int).toNat < s.size - ((k : Int)).toNat; omega
        · have RWH := fun w => rwhole_any (s.extract k r) w (by rw [ByteArray.size_extract]; omega)
          have TKI := TKI.out rfl rfl
          obtain ⟨nv, env⟩ : ∃ nv, LxM.num (s.extract k r).data.toList = nv := ⟨_, rfl⟩
          rw [env] at RWH TKI
          clear env
          cases nv with
          | none =>
            have TK := Lib.hid TKI
            unfold whl at RWH
            clear TKI
            go_wp2_with (first
              | (refine wpList_store_row rfl 31 (.tmp 7) (.tmp 25) rfl wr.heap.size #[.int .i64 0, .string ⟨#[]⟩, .int .i64 0, .int .i64 (k : Int)] rfl rfl 31 _ BK0.out sizeT rfl (one4 _ _ _ _) ?_; obtain ⟨w1, hw1, B1, K1⟩ : ∃ w1, w1 = (wr.alloc (.cells #[.int .i64 0, .string ⟨#[]⟩, .int .i64 0, .int .i64 0] 31)).setRow wr.heap.size #[.int .i64 0, .string ⟨#[]⟩, .int .i64 0, .int .i64 (k : Int)] ∧ Hid (Below wr.heap.size wr w1) ∧ Hid (Blk w1 wr.heap.size #[.int .i64 0, .string ⟨#[]⟩, .int .i64 0, .int .i64 (k : Int)] 31) := ⟨_, rfl, BX, BR⟩; rw [← hw1]; clear hw1 BX BR BK0; obtain ⟨⟨c0, c1, c2, c3⟩, f0, f1, f2, f3⟩ := K1.out.four)
              | (go_at_call 18; with_reducible refine (RK _).mono ?_; rintro e w' ⟨rfl, rfl⟩)
              | (go_at_call 19; with_reducible refine (LE _).mono ?_; rintro e w' ⟨rfl, rfl⟩)
              | (go_at_call 20; with_reducible refine (DI _).mono ?_; rintro e w' ⟨rfl, rfl⟩)
              | (go_at_call 21; with_reducible refine (RWH _).mono ?_; rintro e w' ⟨rfl, rfl⟩))
            go_ret3
            have FB := NO.out TK.out
            rw [FB]
            exact ⟨⟨_, _, _, rfl, rfl, rfl, rfl⟩, HB.out.trans ((below_put B1.out 0 (.int .i64 3) wr.heap.size (Nat.le_refl _)).mono HB.out.size)⟩
          | some v =>
            have TK := Lib.hid TKI
            unfold whl at RWH
            clear TKI
            have TO : Hid (∀ WF : World, Below wr.heap.size wr WF → TRow (WF.alloc (.cells #[.int .i64 3, .string ⟨#[]⟩, .int .i64 v, .int .i64 (k : Int)] 31)) W.heap.size u5 toks ∧ (WF.alloc (.cells #[.int .i64 3, .string ⟨#[]⟩, .int .i64 v, .int .i64 (k : Int)] 31)).heap[WF.heap.size]? = some (.cells (tcs ⟨3, [], v, k⟩) 31 (0, 0)) ∧ W.heap.size ≤ (WF.alloc (.cells #[.int .i64 3, .string ⟨#[]⟩, .int .i64 v, .int .i64 (k : Int)] 31)).heap.size) := fun WF bf => tail_ok OWN.out HB.out bf _ ⟨3, [], v, k⟩ (by unfold tcs; first | rfl | rw [ba_eta])
            have L5 : Hid (toks.length ≤ 100000) := (by have := LEN.out; omega : toks.length ≤ 100000)
            go_wp2_with (first
              | (refine wpList_store_row rfl 31 (.tmp 7) (.tmp 25) rfl wr.heap.size #[.int .i64 0, .string ⟨#[]⟩, .int .i64 0, .int .i64 (k : Int)] rfl rfl 31 _ BK0.out sizeT rfl (one4 _ _ _ _) ?_; obtain ⟨w1, hw1, B1, K1⟩ : ∃ w1, w1 = (wr.alloc (.cells #[.int .i64 0, .string ⟨#[]⟩, .int .i64 0, .int .i64 0] 31)).setRow wr.heap.size #[.int .i64 0, .string ⟨#[]⟩, .int .i64 0, .int .i64 (k : Int)] ∧ Hid (Below wr.heap.size wr w1) ∧ Hid (Blk w1 wr.heap.size #[.int .i64 0, .string ⟨#[]⟩, .int .i64 0, .int .i64 (k : Int)] 31) := ⟨_, rfl, BX, BR⟩; rw [← hw1]; clear hw1 BX BR BK0; obtain ⟨⟨c0, c1, c2, c3⟩, f0, f1, f2, f3⟩ := K1.out.four)
              | (go_at_call 18; with_reducible refine (RK _).mono ?_; rintro e w' ⟨rfl, rfl⟩)
              | (go_at_call 19; with_reducible refine (LE _).mono ?_; rintro e w' ⟨rfl, rfl⟩)
              | (go_at_call 20; with_reducible refine (DI _).mono ?_; rintro e w' ⟨rfl, rfl⟩)
              | (go_at_call 21; with_reducible refine (RWH _).mono ?_; rintro e w' ⟨rfl, rfl⟩)
              | (at_builtin; refine wpList_append_tok rfl (.tmp 110) (.tmp 112) rfl W.heap.size u5 toks ?_ ?_ w1.heap.size ?_ ⟨3, [], v, k⟩ 31 (0, 0) ?_ ?_ ?_ ?_; rfl; exact (TO.out _ (below_put (below_put B1.out 0 (.int .i64 3) wr.heap.size (Nat.le_refl _)) 2 (.int .i64 v) wr.heap.size (Nat.le_refl _))).1; rfl; (have h := (TO.out _ (below_put (below_put B1.out 0 (.int .i64 3) wr.heap.size (Nat.le_refl _)) 2 (.int .i64 v) wr.heap.size (Nat.le_refl _))).2.1; (try simp only [World.size_setCell] at h); exact h); exact L5.out; exact (TO.out _ (below_put (below_put B1.out 0 (.int .i64 3) wr.heap.size (Nat.le_refl _)) 2 (.int .i64 v) wr.heap.size (Nat.le_refl _))).2.2; intro v2 w3 own3 g3; have OWN3 := Lib.hid own3; have B3 := Lib.hid (tail_below OWN.out HB.out (below_put (below_put B1.out 0 (.int .i64 3) wr.heap.size (Nat.le_refl _)) 2 (.int .i64 v) wr.heap.size (Nat.le_refl _)) g3); clear own3 g3)
              | (go_at_call 17; with_reducible refine (RSR.out _).mono ?_; rintro e w' ⟨rfl, rfl⟩))
            refine ⟨⟨sp s r, toks ++ [⟨3, [], v, k⟩], spr, rfl, ?_, NX.out _ TK.out, OWN3.out, B3.out⟩, ?_⟩
            · have := LEN.out; have := RGT.out rfl; rw [List.length_append]; show toks.length + 1 ≤ _; omega
            · have := RGT.out rfl; show s.size - ((sp s r : Nat) : Int).toNat < s.size - ((k : Int)).toNat; omega
      · have RW := fun w => rword_any (s.extract k r) w
        obtain ⟨wv, ewv⟩ : ∃ wv, LxM.isWord (s.extract k r).data.toList = wv := ⟨_, rfl⟩
        rw [ewv] at RW TKN
        clear ewv
        by_cases h32 : r - k ≤ 32
        · have q1 : (r : Int) - (k : Int) ≤ 32 := by omega
          have TK := Lib.hid (TKN.out rfl h32)
          cases wv
          · have TO : Hid (∀ WF : World, Below wr.heap.size wr WF → TRow (WF.alloc (.cells #[.int .i64 2, .string (s.extract k r), .int .i64 0, .int .i64 (k : Int)] 31)) W.heap.size u5 toks ∧ (WF.alloc (.cells #[.int .i64 2, .string (s.extract k r), .int .i64 0, .int .i64 (k : Int)] 31)).heap[WF.heap.size]? = some (.cells (tcs ⟨2, (s.extract k r).data.toList, 0, k⟩) 31 (0, 0)) ∧ W.heap.size ≤ (WF.alloc (.cells #[.int .i64 2, .string (s.extract k r), .int .i64 0, .int .i64 (k : Int)] 31)).heap.size) := fun WF bf => tail_ok OWN.out HB.out bf _ ⟨2, (s.extract k r).data.toList, 0, k⟩ (by unfold tcs; rw [ba_eta])
            have L5 : Hid (toks.length ≤ 100000) := (by have := LEN.out; omega : toks.length ≤ 100000)
            go_wp2_with (first
              | (refine wpList_store_row rfl 31 (.tmp 7) (.tmp 25) rfl wr.heap.size #[.int .i64 0, .string ⟨#[]⟩, .int .i64 0, .int .i64 (k : Int)] rfl rfl 31 _ BK0.out sizeT rfl (one4 _ _ _ _) ?_; obtain ⟨w1, hw1, B1, K1⟩ : ∃ w1, w1 = (wr.alloc (.cells #[.int .i64 0, .string ⟨#[]⟩, .int .i64 0, .int .i64 0] 31)).setRow wr.heap.size #[.int .i64 0, .string ⟨#[]⟩, .int .i64 0, .int .i64 (k : Int)] ∧ Hid (Below wr.heap.size wr w1) ∧ Hid (Blk w1 wr.heap.size #[.int .i64 0, .string ⟨#[]⟩, .int .i64 0, .int .i64 (k : Int)] 31) := ⟨_, rfl, BX, BR⟩; rw [← hw1]; clear hw1 BX BR BK0; obtain ⟨⟨c0, c1, c2, c3⟩, f0, f1, f2, f3⟩ := K1.out.four)
              | (go_at_call 18; with_reducible refine (RK _).mono ?_; rintro e w' ⟨rfl, rfl⟩)
              | (go_at_call 19; with_reducible refine (LE _).mono ?_; rintro e w' ⟨rfl, rfl⟩)
              | (go_at_call 13; with_reducible refine (RW _).mono ?_; rintro e w2 ⟨rfl, b2⟩; have K2 := Lib.hid ((blk0 (blk1 K1.out (.string (s.extract k r))) (.int .i64 2)).keep b2); have B2 := Lib.hid ((below_put (below_put B1.out 1 (.string (s.extract k r)) wr.heap.size (Nat.le_refl _)) 0 (.int .i64 2) wr.heap.size (Nat.le_refl _)).trans (b2.mono (below_put (below_put B1.out 1 (.string (s.extract k r)) wr.heap.size (Nat.le_refl _)) 0 (.int .i64 2) wr.heap.size (Nat.le_refl _)).size)); clear c0 c1 c2 c3 f0 f1 f2 f3 b2; obtain ⟨⟨c0, c1, c2, c3⟩, f0, f1, f2, f3⟩ := K2.out.four)
              | (at_builtin; refine wpList_append_tok rfl (.tmp 110) (.tmp 112) rfl W.heap.size u5 toks ?_ ?_ w2.heap.size ?_ ⟨2, (s.extract k r).data.toList, 0, k⟩ 31 (0, 0) ?_ ?_ ?_ ?_; rfl; exact (TO.out w2 B2.out).1; rfl; exact (TO.out w2 B2.out).2.1; exact L5.out; exact (TO.out w2 B2.out).2.2; intro v2 w3 own3 g3; have OWN3 := Lib.hid own3; have B3 := Lib.hid (tail_below OWN.out HB.out B2.out g3); clear own3 g3)
              | (go_at_call 17; with_reducible refine (RSR.out _).mono ?_; rintro e w' ⟨rfl, rfl⟩))
            refine ⟨⟨sp s r, toks ++ [⟨2, (s.extract k r).data.toList, 0, k⟩], spr, rfl, ?_, NX.out _ TK.out, OWN3.out, B3.out⟩, ?_⟩
            · have := LEN.out; have := RGT.out rfl; rw [List.length_append]; show toks.length + 1 ≤ _; omega
            · have := RGT.out rfl; show s.size - ((sp s r : Nat) : Int).toNat < s.size - ((k : Int)).toNat; omega
          · have TO : Hid (∀ WF : World, Below wr.heap.size wr WF → TRow (WF.alloc (.cells #[.int .i64 1, .string (s.extract k r), .int .i64 0, .int .i64 (k : Int)] 31)) W.heap.size u5 toks ∧ (WF.alloc (.cells #[.int .i64 1, .string (s.extract k r), .int .i64 0, .int .i64 (k : Int)] 31)).heap[WF.heap.size]? = some (.cells (tcs ⟨1, (s.extract k r).data.toList, 0, k⟩) 31 (0, 0)) ∧ W.heap.size ≤ (WF.alloc (.cells #[.int .i64 1, .string (s.extract k r), .int .i64 0, .int .i64 (k : Int)] 31)).heap.size) := fun WF bf => tail_ok OWN.out HB.out bf _ ⟨1, (s.extract k r).data.toList, 0, k⟩ (by unfold tcs; first | rfl | rw [ba_eta])
            have L5 : Hid (toks.length ≤ 100000) := (by have := LEN.out; omega : toks.length ≤ 100000)
            go_wp2_with (first
              | (refine wpList_store_row rfl 31 (.tmp 7) (.tmp 25) rfl wr.heap.size #[.int .i64 0, .string ⟨#[]⟩, .int .i64 0, .int .i64 (k : Int)] rfl rfl 31 _ BK0.out sizeT rfl (one4 _ _ _ _) ?_; obtain ⟨w1, hw1, B1, K1⟩ : ∃ w1, w1 = (wr.alloc (.cells #[.int .i64 0, .string ⟨#[]⟩, .int .i64 0, .int .i64 0] 31)).setRow wr.heap.size #[.int .i64 0, .string ⟨#[]⟩, .int .i64 0, .int .i64 (k : Int)] ∧ Hid (Below wr.heap.size wr w1) ∧ Hid (Blk w1 wr.heap.size #[.int .i64 0, .string ⟨#[]⟩, .int .i64 0, .int .i64 (k : Int)] 31) := ⟨_, rfl, BX, BR⟩; rw [← hw1]; clear hw1 BX BR BK0; obtain ⟨⟨c0, c1, c2, c3⟩, f0, f1, f2, f3⟩ := K1.out.four)
              | (go_at_call 18; with_reducible refine (RK _).mono ?_; rintro e w' ⟨rfl, rfl⟩)
              | (go_at_call 19; with_reducible refine (LE _).mono ?_; rintro e w' ⟨rfl, rfl⟩)
              | (go_at_call 13; with_reducible refine (RW _).mono ?_; rintro e w2 ⟨rfl, b2⟩; have K2 := Lib.hid ((blk0 (blk1 K1.out (.string (s.extract k r))) (.int .i64 2)).keep b2); have B2 := Lib.hid ((below_put (below_put B1.out 1 (.string (s.extract k r)) wr.heap.size (Nat.le_refl _)) 0 (.int .i64 2) wr.heap.size (Nat.le_refl _)).trans (b2.mono (below_put (below_put B1.out 1 (.string (s.extract k r)) wr.heap.size (Nat.le_refl _)) 0 (.int .i64 2) wr.heap.size (Nat.le_refl _)).size)); clear c0 c1 c2 c3 f0 f1 f2 f3 b2; obtain ⟨⟨c0, c1, c2, c3⟩, f0, f1, f2, f3⟩ := K2.out.four)
              | (at_builtin; refine wpList_append_tok rfl (.tmp 110) (.tmp 112) rfl W.heap.size u5 toks ?_ ?_ w2.heap.size ?_ ⟨1, (s.extract k r).data.toList, 0, k⟩ 31 (0, 0) ?_ ?_ ?_ ?_; rfl; exact (TO.out _ (below_put B2.out 0 (.int .i64 1) wr.heap.size (Nat.le_refl _))).1; rfl; (have h := (TO.out _ (below_put B2.out 0 (.int .i64 1) wr.heap.size (Nat.le_refl _))).2.1; (try simp only [World.size_setCell] at h); exact h); exact L5.out; exact (TO.out _ (below_put B2.out 0 (.int .i64 1) wr.heap.size (Nat.le_refl _))).2.2; intro v2 w3 own3 g3; have OWN3 := Lib.hid own3; have B3 := Lib.hid (tail_below OWN.out HB.out (below_put B2.out 0 (.int .i64 1) wr.heap.size (Nat.le_refl _)) g3); clear own3 g3)
              | (go_at_call 17; with_reducible refine (RSR.out _).mono ?_; rintro e w' ⟨rfl, rfl⟩))
            refine ⟨⟨sp s r, toks ++ [⟨1, (s.extract k r).data.toList, 0, k⟩], spr, rfl, ?_, NX.out _ TK.out, OWN3.out, B3.out⟩, ?_⟩
            · have := LEN.out; have := RGT.out rfl; rw [List.length_append]; show toks.length + 1 ≤ _; omega
            · have := RGT.out rfl; show s.size - ((sp s r : Nat) : Int).toNat < s.size - ((k : Int)).toNat; omega
        · have q1 : 32 < (r : Int) - (k : Int) := by omega
          have q2 : ¬ (r : Int) - (k : Int) ≤ 32 := by omega
          have TK := Lib.hid (TKL.out rfl (by omega))
          cases wv
          · go_wp2_with (first
              | (refine wpList_store_row rfl 31 (.tmp 7) (.tmp 25) rfl wr.heap.size #[.int .i64 0, .string ⟨#[]⟩, .int .i64 0, .int .i64 (k : Int)] rfl rfl 31 _ BK0.out sizeT rfl (one4 _ _ _ _) ?_; obtain ⟨w1, hw1, B1, K1⟩ : ∃ w1, w1 = (wr.alloc (.cells #[.int .i64 0, .string ⟨#[]⟩, .int .i64 0, .int .i64 0] 31)).setRow wr.heap.size #[.int .i64 0, .string ⟨#[]⟩, .int .i64 0, .int .i64 (k : Int)] ∧ Hid (Below wr.heap.size wr w1) ∧ Hid (Blk w1 wr.heap.size #[.int .i64 0, .string ⟨#[]⟩, .int .i64 0, .int .i64 (k : Int)] 31) := ⟨_, rfl, BX, BR⟩; rw [← hw1]; clear hw1 BX BR BK0; obtain ⟨⟨c0, c1, c2, c3⟩, f0, f1, f2, f3⟩ := K1.out.four)
              | (go_at_call 18; with_reducible refine (RK _).mono ?_; rintro e w' ⟨rfl, rfl⟩)
              | (go_at_call 19; with_reducible refine (LE _).mono ?_; rintro e w' ⟨rfl, rfl⟩)
              | (go_at_call 13; with_reducible refine (RW _).mono ?_; rintro e w2 ⟨rfl, b2⟩; have K2 := Lib.hid ((blk0 (blk1 K1.out (.string (s.extract k r))) (.int .i64 2)).keep b2); have B2 := Lib.hid ((below_put (below_put B1.out 1 (.string (s.extract k r)) wr.heap.size (Nat.le_refl _)) 0 (.int .i64 2) wr.heap.size (Nat.le_refl _)).trans (b2.mono (below_put (below_put B1.out 1 (.string (s.extract k r)) wr.heap.size (Nat.le_refl _)) 0 (.int .i64 2) wr.heap.size (Nat.le_refl _)).size)); clear c0 c1 c2 c3 f0 f1 f2 f3 b2; obtain ⟨⟨c0, c1, c2, c3⟩, f0, f1, f2, f3⟩ := K2.out.four))
            go_ret3
            have FB := NO.out TK.out
            rw [FB]
            exact ⟨⟨_, _, _, rfl, rfl, rfl, rfl⟩, HB.out.trans (B2.out.mono HB.out.size)⟩
          · go_wp2_with (first
              | (refine wpList_store_row rfl 31 (.tmp 7) (.tmp 25) rfl wr.heap.size #[.int .i64 0, .string ⟨#[]⟩, .int .i64 0, .int .i64 (k : Int)] rfl rfl 31 _ BK0.out sizeT rfl (one4 _ _ _ _) ?_; obtain ⟨w1, hw1, B1, K1⟩ : ∃ w1, w1 = (wr.alloc (.cells #[.int .i64 0, .string ⟨#[]⟩, .int .i64 0, .int .i64 0] 31)).setRow wr.heap.size #[.int .i64 0, .string ⟨#[]⟩, .int .i64 0, .int .i64 (k : Int)] ∧ Hid (Below wr.heap.size wr w1) ∧ Hid (Blk w1 wr.heap.size #[.int .i64 0, .string ⟨#[]⟩, .int .i64 0, .int .i64 (k : Int)] 31) := ⟨_, rfl, BX, BR⟩; rw [← hw1]; clear hw1 BX BR BK0; obtain ⟨⟨c0, c1, c2, c3⟩, f0, f1, f2, f3⟩ := K1.out.four)
              | (go_at_call 18; with_reducible refine (RK _).mono ?_; rintro e w' ⟨rfl, rfl⟩)
              | (go_at_call 19; with_reducible refine (LE _).mono ?_; rintro e w' ⟨rfl, rfl⟩)
              | (go_at_call 13; with_reducible refine (RW _).mono ?_; rintro e w2 ⟨rfl, b2⟩; have K2 := Lib.hid ((blk0 (blk1 K1.out (.string (s.extract k r))) (.int .i64 2)).keep b2); have B2 := Lib.hid ((below_put (below_put B1.out 1 (.string (s.extract k r)) wr.heap.size (Nat.le_refl _)) 0 (.int .i64 2) wr.heap.size (Nat.le_refl _)).trans (b2.mono (below_put (below_put B1.out 1 (.string (s.extract k r)) wr.heap.size (Nat.le_refl _)) 0 (.int .i64 2) wr.heap.size (Nat.le_refl _)).size)); clear c0 c1 c2 c3 f0 f1 f2 f3 b2; obtain ⟨⟨c0, c1, c2, c3⟩, f0, f1, f2, f3⟩ := K2.out.four))
            go_ret3
            have FB := NO.out TK.out
            rw [FB]
            exact ⟨⟨_, _, _, rfl, rfl, rfl, rfl⟩, HB.out.trans ((below_put B2.out 0 (.int .i64 1) wr.heap.size (Nat.le_refl _)).mono HB.out.size)⟩
    · obtain rfl : k = s.size := by omega
      have FE : Hid (F = .ok (toks ++ [⟨0, [], 0, s.size⟩])) := Lib.hid (by rw [HF.out, drop_none s _ (Nat.le_refl _), LxM.lexT_nil]; rfl)
      have BZ := Lib.hid (Below.refl wr.heap.size wr)
      have TO : Hid (∀ WF : World, Below wr.heap.size wr WF → TRow (WF.alloc (.cells #[.int .i64 0, .string ⟨#[]⟩, .int .i64 0, .int .i64 (s.size : Int)] 31)) W.heap.size u5 toks ∧ (WF.alloc (.cells #[.int .i64 0, .string ⟨#[]⟩, .int .i64 0, .int .i64 (s.size : Int)] 31)).heap[WF.heap.size]? = some (.cells (tcs ⟨0, [], 0, s.size⟩) 31 (0, 0)) ∧ W.heap.size ≤ (WF.alloc (.cells #[.int .i64 0, .string ⟨#[]⟩, .int .i64 0, .int .i64 (s.size : Int)] 31)).heap.size) := fun WF bf => tail_ok OWN.out HB.out bf _ ⟨0, [], 0, s.size⟩ (by unfold tcs; first | rfl | rw [ba_eta])
      have L5 : Hid (toks.length ≤ 100000) := (by have := LEN.out; omega : toks.length ≤ 100000)
      go_wp2_with (first
        | (at_builtin; refine wpList_append_tok rfl (.tmp 117) (.tmp 121) rfl W.heap.size u5 toks ?_ ?_ wr.heap.size ?_ ⟨0, [], 0, s.size⟩ 31 (0, 0) ?_ ?_ ?_ ?_; rfl; exact (TO.out _ BZ.out).1; rfl; (have h := (TO.out _ BZ.out).2.1; (try simp only [World.size_setCell] at h); exact h); exact L5.out; exact (TO.out _ BZ.out).2.2; intro v2 w3 own3 g3; have OWN3 := Lib.hid own3; have B3 := Lib.hid (tail_below OWN.out HB.out BZ.out g3); clear own3 g3))
      go_ret3
      have FB := FE.out
      rw [FB]
      exact ⟨⟨_, _, _, rfl, rfl, rfl, OWN3.out⟩, B3.out⟩
end Go.Proofs.YtikbgkndfmcfhaaDoor
