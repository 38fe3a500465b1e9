/- Package lex: what holds of memory while tokens are read (printed by genlxr.py). -/
import Derived.Test.YtikbgkndfmcfhaaDoorLxX
import Derived.Test.YtikbgkndfmcfhaaDoorLxF
namespace Go.Proofs.YtikbgkndfmcfhaaDoor
open Go.RowKit
set_option linter.unusedVariables false

/-- Tokens' cells, one behind the other. -/
def tcells : List LxM.T → List Value
  | [] => []
  | a :: r => (tcs a).toList ++ tcells r
theorem tcells_length : ∀ l : List LxM.T, (tcells l).length = l.length * 4
  | [] => rfl
  | a :: r => by simp [tcells, tcs, tcells_length r]; omega
theorem tcells_append : ∀ a b : List LxM.T, tcells (a ++ b) = tcells a ++ tcells b
  | [], b => rfl
  | a :: r, b => by simp [tcells, tcells_append r b]
def TRow (w : World) (base : Nat) (v : Value) (l : List LxM.T) : Prop := w.ownsRow base 31 4 v l.length (tcells l)
theorem tcs_one (t : LxM.T) : ∀ y ∈ (tcs t).toList, y.oneCell' = true := by
  intro y hy
  simp [tcs] at hy
  rcases hy with rfl | rfl | rfl | rfl <;> rfl
theorem step_append_tok {w : World} {ops : Array Oper} {o : Oper} {a : Act} {K : Act → World → Prop} {Q : Exit → Act → World → Prop} {E : Prop} (hgd : o.guard = none) (s x : Operand)
    (ho : o.op = .call { callee := .builtin .append, args := #[s, x], argTypes := #[23, 23] })
    (base : Nat) (v : Value) (l : List LxM.T) (hs : a.eval s = v) (hown : TRow w base v l)
    (b : Nat) (hx : a.eval x = .slice (some ⟨b, 0, none⟩) 1 1) (t : LxM.T) (ty : TypeId) (fr : Nat × Nat) (hu : w.heap[b]? = some (.cells (tcs t) ty fr)) (hlen : l.length ≤ 100000) (hb : base ≤ w.heap.size)
    (h : ∀ v' w', TRow w' base v' (l ++ [t]) → w.grownBy w' v.ownBlock → K (a.put o.dst v') w') :
    if Region.wanted o (yielded ops a.tmps) = true then Oper.wp Tryd.prog o a w K Q else E := by
  have hw : Region.wanted o (yielded ops a.tmps) = true := by simp [Region.wanted, hgd]
  rw [if_pos hw]
  obtain ⟨i, hi, hz, k1, k2⟩ := info_parts infoT
  obtain ⟨v', w', hrun, h2, h3, _, _⟩ := run_append_own_at (P := Tryd.prog) w base 23 o.type 31 i _ 4 40 Tryd.underlying23 hi hz k1 k2 rfl (by decide) v l.length (tcells l) hown ⟨b, 0, none⟩ 1 1 (tcs t).toList rfl (fun j y hy => by
    have hj : j < 4 := by have := (List.getElem?_eq_some_iff.1 hy).1; simpa [tcs] using this
    have e : (⟨b, 0, none⟩ : Addr).add j = ⟨b, j, none⟩ := by unfold Addr.add; split <;> simp_all
    rw [e]
    simp only [World.cell?, hu]
    simpa using hy) (tcs_one t) (by unfold maxLen; omega) (by omega) hb
  unfold Oper.wp
  simp [execOp, ho, resolve, invoke, builtin, hs, hx, hrun, Result.andThen]
  exact h v' w' (by unfold TRow; rw [tcells_append, List.length_append]; simpa [tcells] using h2) h3
/-- What holds of memory while tokens are read. -/
structure RX (W0 : World) (g tb : Nat) (s : ByteArray) (f k : Nat) (toks : List LxM.T) (tc : Array Value) (tv : Value) (W : World) : Prop where
  rd : Rb W g s f k tv
  tok : Blk W tb tc 31
  own : TRow W (tb + 1) tv toks
  gr : W0.grownBy W (some g)
  htb : W0.heap.size ≤ tb
  hg : g < W0.heap.size
  hk : k ≤ s.size
  len : toks.length ≤ k
  er : Er W0
  g1 : 1 < g
theorem trow_grown {W W' : World} {base : Nat} {v : Value} {l : List LxM.T} {r : Nat} (h : TRow W base v l) (hg : W.grownBy W' (some r)) (hb : r < base) : TRow W' base v l := own_grown h hg hb
theorem RX.ers {W0 W : World} {g tb : Nat} {s : ByteArray} {f k : Nat} {toks : List LxM.T} {tc : Array Value} {tv : Value} (h : RX W0 g tb s f k toks tc tv W) : Er W := h.er.grown h.gr h.g1
theorem RX.step {W0 W W' : World} {g tb : Nat} {s : ByteArray} {f k f' k' : Nat} {toks : List LxM.T} {tc : Array Value} {tv : Value} (h : RX W0 g tb s f k toks tc tv W) (hr : Rb W' g s f' k' tv) (hg : W.grownBy W' (some g)) (h1 : k ≤ k') (h2 : k' ≤ s.size) : RX W0 g tb s f' k' toks tc tv W' :=
  ⟨hr, h.tok.grown hg (by have := h.htb; have := h.hg; intro e; have := Option.some.inj e; omega), trow_grown h.own hg (by have := h.htb; have := h.hg; omega), h.gr.trans hg, h.htb, h.hg, h2, Nat.le_trans h.len h1, h.er, h.g1⟩
theorem RX.from_ {W0 W : World} {g tb : Nat} {s : ByteArray} {f k : Nat} {toks : List LxM.T} {tc : Array Value} {tv : Value} (h : RX W0 g tb s f k toks tc tv W) : RX W0 g tb s k k toks tc tv (W.setCell ⟨g, 1, none⟩ (.int .i64 (k : Int))) :=
  h.step (h.rd.put1 k) (grown_set _ _ _ _) (Nat.le_refl _) h.hk
theorem RX.sm {W0 W W' : World} {g tb : Nat} {s : ByteArray} {f k : Nat} {toks : List LxM.T} {tc : Array Value} {tv : Value} (h : RX W0 g tb s f k toks tc tv W) (m : Sm W W') : RX W0 g tb s f k toks tc tv W' := h.step (m.rb h.rd) (m.grown _) (Nat.le_refl _) h.hk
/-- The token's block is written. -/
theorem RX.row {W0 W : World} {g tb : Nat} {s : ByteArray} {f k : Nat} {toks : List LxM.T} {tc : Array Value} {tv : Value} (h : RX W0 g tb s f k toks tc tv W) (cs : Array Value) : RX W0 g tb s f k toks cs tv (W.setRow tb cs) := by
  have r := grown_row W tb cs
  have htb := h.htb
  have hg := h.hg
  refine ⟨Blk.grown h.rd r (by intro e; have := Option.some.inj e; omega), setRow_heap' _ _ _ _ _ h.tok, trow_grown h.own r (Nat.lt_succ_self _), row_grown h.gr htb, htb, hg, h.hk, h.len, h.er, h.g1⟩
def FrR (g tb : Nat) (b ok : Value) (a : Act) : Prop := ∃ U : Nat → Value, a = { tmps := #[.pointer (some ⟨g, 0, none⟩), undef, .bool false, b, .pointer (some ⟨tb, 0, none⟩), ok, U 6, U 7, U 8, U 9, U 10, U 11, U 12, U 13, U 14, U 15, U 16, U 17, U 18, U 19, U 20, U 21, U 22, U 23, U 24, U 25, U 26, U 27, U 28, U 29, U 30, U 31, U 32, U 33, U 34, U 35, U 36, U 37, U 38, U 39, U 40, U 41, U 42, U 43, U 44, U 45, U 46, U 47, U 48, U 49, U 50, U 51, U 52, U 53, U 54, U 55, U 56, U 57, U 58, U 59, U 60, U 61, U 62, U 63, U 64, U 65, U 66, U 67, U 68, U 69, U 70, U 71, U 72, U 73, U 74, U 75, U 76, U 77, U 78, U 79, U 80, U 81, U 82, U 83, U 84, U 85, U 86, U 87, U 88, U 89, U 90, U 91, U 92, U 93, U 94, U 95, U 96, U 97, U 98, U 99, U 100, U 101, U 102, U 103, U 104, U 105, U 106, U 107, U 108, U 109, U 110, U 111, U 112, U 113, U 114, U 115, U 116, U 117, U 118, U 119, U 120, U 121, U 122, U 123], defers := [] }
theorem FrR.mk {g tb : Nat} {b ok u6 u7 u8 u9 u10 u11 u12 u13 u14 u15 u16 u17 u18 u19 u20 u21 u22 u23 u24 u25 u26 u27 u28 u29 u30 u31 u32 u33 u34 u35 u36 u37 u38 u39 u40 u41 u42 u43 u44 u45 u46 u47 u48 u49 u50 u51 u52 u53 u54 u55 u56 u57 u58 u59 u60 u61 u62 u63 u64 u65 u66 u67 u68 u69 u70 u71 u72 u73 u74 u75 u76 u77 u78 u79 u80 u81 u82 u83 u84 u85 u86 u87 u88 u89 u90 u91 u92 u93 u94 u95 u96 u97 u98 u99 u100 u101 u102 u103 u104 u105 u106 u107 u108 u109 u110 u111 u112 u113 u114 u115 u116 u117 u118 u119 u120 u121 u122 u123 : Value} : FrR g tb b ok { tmps := #[.pointer (some ⟨g, 0, none⟩), undef, .bool false, b, .pointer (some ⟨tb, 0, none⟩), ok, u6, u7, u8, u9, u10, u11, u12, u13, u14, u15, u16, u17, u18, u19, u20, u21, u22, u23, u24, u25, u26, u27, u28, u29, u30, u31, u32, u33, u34, u35, u36, u37, u38, u39, u40, u41, u42, u43, u44, u45, u46, u47, u48, u49, u50, u51, u52, u53, u54, u55, u56, u57, u58, u59, u60, u61, u62, u63, u64, u65, u66, u67, u68, u69, u70, u71, u72, u73, u74, u75, u76, u77, u78, u79, u80, u81, u82, u83, u84, u85, u86, u87, u88, u89, u90, u91, u92, u93, u94, u95, u96, u97, u98, u99, u100, u101, u102, u103, u104, u105, u106, u107, u108, u109, u110, u111, u112, u113, u114, u115, u116, u117, u118, u119, u120, u121, u122, u123], defers := [] } := ⟨fun i => ([u6, u7, u8, u9, u10, u11, u12, u13, u14, u15, u16, u17, u18, u19, u20, u21, u22, u23, u24, u25, u26, u27, u28, u29, u30, u31, u32, u33, u34, u35, u36, u37, u38, u39, u40, u41, u42, u43, u44, u45, u46, u47, u48, u49, u50, u51, u52, u53, u54, u55, u56, u57, u58, u59, u60, u61, u62, u63, u64, u65, u66, u67, u68, u69, u70, u71, u72, u73, u74, u75, u76, u77, u78, u79, u80, u81, u82, u83, u84, u85, u86, u87, u88, u89, u90, u91, u92, u93, u94, u95, u96, u97, u98, u99, u100, u101, u102, u103, u104, u105, u106, u107, u108, u109, u110, u111, u112, u113, u114, u115, u116, u117, u118, u119, u120, u121, u122, u123] : List Value).getD (i - 6) undef, rfl⟩
noncomputable def codeR : Code := scopeIn Tryd.f16
noncomputable def restR : Option Code := match codeR with | .seq _ (.seq _ (.seq _ (.seq _ c))) => some c | _ => none
def rankR : Nat → Nat
  | 0 => 1
  | 2 => 2
  | 3 => 3
  | 4 => 3
  | 5 => 3
  | 6 => 3
  | 7 => 2
  | _ => 0
def mR (g : Nat) (s : ByteArray) (l : Nat) (_ : Act) (w : World) : Nat := 8 * (s.size - kOf g w) + rankR l
/-- What is still to come, label by label: L: all bytes; k: the next byte; f: where the token begins. -/
def FinR (F : LxM.Ans) (s : ByteArray) (f k : Nat) (toks : List LxM.T) (tc : Array Value) (b ok : Value) : Nat → Prop
  | 0 => F = (LxM.lexS s.size (s.data.toList.drop k)).pre toks
  | 1 => f = s.size ∧ F = .ok (toks ++ [⟨0, [], 0, s.size⟩])
  | 2 => F = (LxM.lexT s.size (LxM.sk true (s.data.toList.drop k))).pre toks
  | 3 => f < k ∧ LxM.lt (LxM.hd (s.data.toList.drop f)) = true ∧ (s.data.toList.drop f).takeWhile LxM.wdb = (s.data.toList.drop f).take (k - f) ++ (s.data.toList.drop k).takeWhile LxM.wdb ∧ (s.data.toList.drop f).dropWhile LxM.wdb = (s.data.toList.drop k).dropWhile LxM.wdb ∧ F = (LxM.lexT s.size (s.data.toList.drop f)).pre toks
  | 4 => f < k ∧ LxM.lt (LxM.hd (s.data.toList.drop f)) = false ∧ LxM.dg (LxM.hd (s.data.toList.drop f)) = true ∧ (s.data.toList.drop f).takeWhile LxM.wdb = (s.data.toList.drop f).take (k - f) ++ (s.data.toList.drop k).takeWhile LxM.wdb ∧ (s.data.toList.drop f).dropWhile LxM.wdb = (s.data.toList.drop k).dropWhile LxM.wdb ∧ F = (LxM.lexT s.size (s.data.toList.drop f)).pre toks
  | 5 => k = f + 1 ∧ ∃ m : UInt8, (m = 34 ∨ m = 39) ∧ b = .int .i64 (m.toNat : Int) ∧ s.data.toList.drop f = m :: s.data.toList.drop k ∧ F = (LxM.lexT s.size (s.data.toList.drop f)).pre toks
  | 6 => k = f + 1 ∧ LxM.tk (s.data.toList.drop f) = LxM.tkS (s.data.toList.drop f) ∧ F = (LxM.lexT s.size (s.data.toList.drop f)).pre toks
  | 7 => f < k ∧ ∃ (t : LxM.T) (o : Bool), ok = .bool o ∧ t.at_ = 0 ∧ tc = tcs t ∧ Got (LxM.tk (s.data.toList.drop f)) s t o k ∧ F = (LxM.lexT s.size (s.data.toList.drop f)).pre toks
  | _ => False
def JR (F : LxM.Ans) (W0 : World) (g tb : Nat) (s : ByteArray) (l : Nat) (a : Act) (W : World) : Prop :=
  ∃ b ok f k toks tc tv, FrR g tb b ok a ∧ tc.size = 4 ∧ RX W0 g tb s f k toks tc tv W ∧ (3 ≤ l → toks.length ≤ f) ∧ FinR F s f k toks tc b ok l
/-- The function's end. -/
def PR (F : LxM.Ans) (W0 : World) (g : Nat) (s : ByteArray) (e : Ending) (W' : World) : Prop :=
  ∃ (o : Bool) (f k : Nat) (tv : Value), e = .returned (.bool o) ∧ Rb W' g s f k tv ∧ W0.grownBy W' (some g) ∧ match F with | .ok l => o = true ∧ TRow W' W0.heap.size tv l | .bad p => o = false ∧ f = p
abbrev passR (F : LxM.Ans) (W0 : World) (g tb : Nat) (s : ByteArray) (l : Nat) (a : Act) (w : World) : Exit → Act → World → Prop :=
  Exit.jumps (fun l' a' w' => JR F W0 g tb s l' a' w' ∧ mR g s l' a' w' < mR g s l a w) (bodyPost Tryd.prog Tryd.f16 (PR F W0 g s))
theorem goesR {F : LxM.Ans} {W0 : World} {g tb : Nat} {s : ByteArray} {l l' k1 k2 f : Nat} {a a' : Act} {w w' : World} {b ok tv : Value} {toks : List LxM.T} {tc : Array Value} (hf : FrR g tb b ok a') (ht : tc.size = 4) (h : RX W0 g tb s f k2 toks tc tv w') (hF : FinR F s f k2 toks tc b ok l') (h1 : kOf g w = k1) (hm : 8 * (s.size - k2) + rankR l' < 8 * (s.size - k1) + rankR l) (hl : 3 ≤ l' → toks.length ≤ f) :
    JR F W0 g tb s l' a' w' ∧ mR g s l' a' w' < mR g s l a w :=
  ⟨⟨b, ok, f, k2, toks, tc, tv, hf, ht, h, hl, hF⟩, by unfold mR; rw [h1, h.rd.kof]; exact hm⟩
theorem RX.setkof {W0 W : World} {g tb : Nat} {s : ByteArray} {f k : Nat} {toks : List LxM.T} {tc : Array Value} {tv : Value} (h : RX W0 g tb s f k toks tc tv W) : kOf g W = k := h.rd.kof
end Go.Proofs.YtikbgkndfmcfhaaDoor
