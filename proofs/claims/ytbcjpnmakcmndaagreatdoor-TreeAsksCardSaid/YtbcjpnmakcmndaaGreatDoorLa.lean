/- Texts of one proof behind one another: TcL, TcN, TcO, TcQ, TcS. -/
import Derived.Test.YtbcjpnmakcmndaaGreatDoorLk
import Derived.Test.YtbcjpnmakcmndaaGreatDoorKa
import Derived.Lib.Builder
import Derived.Lib.AppendStr
import Derived.Test.YtbcjpnmakcmndaaGreatDoorLaid
import Derived.Lib.UnsafeStr
import Derived.Test.YtbcjpnmakcmndaaGreatDoorKv
import Derived.Test.YtbcjpnmakcmndaaGreatDoorKy
import Derived.Test.YtbcjpnmakcmndaaGreatDoorKz
/- Package tree: Text of one small tree: the writer's builder. -/
namespace Go.Proofs.YtbcjpnmakcmndaaGreatDoor
open Go.RowKit PrM
set_option linter.unusedVariables false
set_option linter.unusedSimpArgs false
theorem infoBd : (Tryz.prog.info? 75).map (·.size) = some 2 := by kernel_rfl
theorem underU : Tryz.prog.underlying 171 = some .unsafePointer := by kernel_rfl
theorem underB : Tryz.prog.underlying 72 = some (.pointer 75) := by kernel_rfl
theorem liesB : liesAt Tryz.prog Tryz.prog.depth 77 (4 / Tryz.prog.cellsOf 77) 0 75 1 = true := by kernel_rfl
/-- A writer's box. -/
def Wr (w : World) (q : Nat) (p vb : Value) (s e : Nat) : Prop := Blk w q #[p, vb, .map (some s), .map (some e)] 77
theorem Wr.shape {w : World} {q s e : Nat} {p vb : Value} (h : Wr w q p vb s e) : w.shape? q = some (77, 4) := by
 have h : w.heap[q]? = _ := h
 simp [World.shape?, h]
theorem Wr.cells {w : World} {q s e : Nat} {p vb : Value} (h : Wr w q p vb s e) : w.cell? ⟨q, 0, none⟩ = some p ∧ w.cell? ⟨q, 1, none⟩ = some vb ∧ w.cell? ⟨q, 2, none⟩ = some (.map (some s)) ∧ w.cell? ⟨q, 3, none⟩ = some (.map (some e)) ∧ w.frozen? ⟨q, 0, none⟩ = false ∧ w.frozen? ⟨q, 1, none⟩ = false := by
 have h : w.heap[q]? = _ := h
 simp [World.cell?, World.frozen?, h]
theorem Wr.set0 {w : World} {q s e : Nat} {p vb : Value} (h : Wr w q p vb s e) (u : Value) : Wr (w.setCell ⟨q, 0, none⟩ u) q u vb s e := by
 have h : w.heap[q]? = _ := h
 show (w.setCell ⟨q, 0, none⟩ u).heap[q]? = _
 simp [World.setCell, Array.getElem?_modify, h]
theorem Wr.set1 {w : World} {q s e : Nat} {p vb : Value} (h : Wr w q p vb s e) (u : Value) : Wr (w.setCell ⟨q, 1, none⟩ u) q p u s e := by
 have h : w.heap[q]? = _ := h
 show (w.setCell ⟨q, 1, none⟩ u).heap[q]? = _
 simp [World.setCell, Array.getElem?_modify, h]
set_option maxRecDepth 100000 in
set_option maxHeartbeats 1000000 in
theorem cc_any {w : World} {q s e : Nat} {p vb : Value} (h : Wr w q p vb s e) (hp : p = .pointer none ∨ p = .pointer (some ⟨q, 0, none⟩)) :
  Calls Tryz.prog 176 #[.pointer (some ⟨q, 0, none⟩)] w fun en w' => en = .returned (.tuple #[]) ∧ Wr w' q (.pointer (some ⟨q, 0, none⟩)) vb s e ∧ Only (fun k => k = q) w w' := by
 obtain ⟨j, hj, hjs⟩ := Option.map_eq_some_iff.1 infoBd
 have HW := Lib.hid h
 have hsh := h.shape
 obtain ⟨c0, c1, c2, c3, f0, f1⟩ := h.cells
 clear h
 rcases hp with rfl | rfl
 ·go_enter Tryz.func176, Tryz.ntmps176
  go_wp2_with fail
  rw [Lib.run_to_unsafe w ⟨q, 0, none⟩ underB underU hj (by rw [hjs]; decide) hsh (Nat.zero_lt_succ 3)]
  simp only [Result.andThen]
  rw [Oper.upon_value]
  go_wp2_with fail
  rw [run_callFunc_extern Tryz.func191 (by kernel_rfl) (by kernel_rfl) (by kernel_rfl) (e := Extern.AbiNoEscape.same) (by kernel_rfl)]
  rw [Lib.run_noEscape]
  simp only [Result.andThen]
  rw [Oper.upon_value]
  go_wp2_with fail
  rw [Lib.run_from_unsafe w ⟨q, 0, none⟩ underU underB hj hsh liesB]
  simp only [Result.andThen]
  rw [Oper.upon_value]
  go_wp2_with fail
  go_end0
  exact ⟨rfl, HW.out.set0 _, (Only.refl (fun k => k = q) w).setCell (p := ⟨q, 0, none⟩) (.inl rfl) _⟩
 ·go_enter Tryz.func176, Tryz.ntmps176
  go_wp2_with fail
  rw [Lib.run_neq_ptr_same w _ underB hj]
  go_wp2_with fail
  go_end0
  exact ⟨rfl, HW.out, Only.refl _ _⟩
theorem infoU1 : (Tryz.prog.info? 5).map (fun i => (i.zero, i.size, i.bytes)) = some (some (.int .u8 0), 1, 1) := by kernel_rfl
theorem underS : Tryz.prog.underlying 9 = some .string := by kernel_rfl
/-- Cells of bytes. -/
def bcs (l : List UInt8) : List Value := l.map fun b => Value.int .u8 b.toNat
/-- A writer that has written l. -/
def WS (w : World) (q s e : Nat) (l : List UInt8) : Prop := ∃ p vb, (p = .pointer none ∨ p = .pointer (some ⟨q, 0, none⟩)) ∧ Wr w q p vb s e ∧ w.ownsRow (q + 1) 5 1 vb l.length (bcs l)
theorem own_shape {w : World} {base n z : Nat} {ty : TypeId} {v : Value} {xs : List Value} (h : w.ownsRow base ty z v n xs) : ∃ A c, v = .slice A n c := by
 rcases h.2 with ⟨rfl, e⟩ | ⟨g, cap, cur, e, -⟩
 ·exact ⟨none, 0, by rw [e]⟩
 ·exact ⟨_, _, e⟩
/-- Boxes of other types than bytes are kept, but the writer's. -/
def Kt (q : Nat) (w w' : World) : Prop := ∀ b C t fr, b ≠ q → t ≠ 5 → w.heap[b]? = some (.cells C t fr) → w'.heap[b]? = w.heap[b]?
theorem Kt.trans {q : Nat} {a b c : World} (h : Kt q a b) (k : Kt q b c) : Kt q a c := fun n C t fr h1 h2 h3 => by
 have e := h n C t fr h1 h2 h3
 exact (k n C t fr h1 h2 (e.trans h3)).trans e
theorem Kt.of_below {q : Nat} {a b : World} (h : Below a.heap.size a b) : Kt q a b := fun n C t fr h1 h2 h3 => h.block n (Array.getElem?_eq_some_iff.1 h3).1
theorem Kt.of_only {q : Nat} {F : Nat → Prop} {a b : World} (h : Only F a b) (hF : ∀ k C t fr, k ≠ q → t ≠ 5 → a.heap[k]? = some (.cells C t fr) → ¬ F k) : Kt q a b := fun n C t fr h1 h2 h3 => h.block n (Array.getElem?_eq_some_iff.1 h3).1 (hF n C t fr h1 h2 h3)
theorem own_not {w : World} {base n k : Nat} {v : Value} {xs : List Value} {C : Array Value} {t : TypeId} {fr : Nat × Nat} (h : w.ownsRow base 5 1 v n xs) (ht : t ≠ 5) (hk : w.heap[k]? = some (.cells C t fr)) : v.ownBlock ≠ some k := fun e => by
 rcases h.2 with ⟨rfl, -⟩ | ⟨g, cap, cur, rfl, -, hb, -⟩
 ·cases e
 ·obtain rfl : g = k := Option.some.inj e
  rw [hb] at hk
  injection hk with hk
  injection hk with _ e2 _
  exact ht e2.symm
set_option maxRecDepth 100000 in
set_option maxHeartbeats 2000000 in
theorem ws_add {w : World} {q s e : Nat} {l : List UInt8} (h : WS w q s e l) (t : ByteArray) (hn : l.length + t.size ≤ 100000) :
  Calls Tryz.prog 155 #[.pointer (some ⟨q, 0, none⟩), .string t] w fun en w' => (∃ v, en = .returned v) ∧ WS w' q s e (l ++ t.data.toList) ∧ Below q w w' ∧ Kt q w w' := by
 obtain ⟨p, vb, hp, hw, own⟩ := h
 have CC := Lib.hid (cc_any hw hp)
 have HL := Lib.hid hw.shape
 obtain ⟨i, hi, hz, k1, k2⟩ := info_parts infoU1
 have OW := Lib.hid own
 have HQ := Lib.hid (show q < w.heap.size by
  have h : w.heap[q]? = _ := hw
  exact (Array.getElem?_eq_some_iff.1 h).1)
 have HN := Lib.hid hn
 clear hp hw own hn
 go_enter Tryz.func155, Tryz.ntmps155
 go_wp2_with (first
  |(go_at_call 176; refine CC.out.mono ?_; rintro en w1 ⟨rfl, w1r, o1⟩; have W1 := Lib.hid w1r; have O1 := Lib.hid o1; have OW1 := Lib.hid (ownsRow_only OW.out o1 (fun k e => by omega)); have S1 := Lib.hid (Nat.le_trans HQ.out o1.size); obtain ⟨c0, c1, c2, c3, f0, f1⟩ := w1r.cells; clear w1r o1)
  |(at_builtin; refine Lib.wpList_append_own_string _ rfl (.tmp 12) (.tmp 13) 73 9 rfl (q + 1) 5 i Tryz.underlying73 underS hi hz k1 k2 vb l.length (bcs l) rfl OW1.out t rfl (by have := HN.out; unfold maxLen; omega) (by have := HN.out; omega) S1.out ?_; intro v2 w2 own2 g2 _; obtain ⟨A2, d2, rfl⟩ := own_shape own2; have OW2 := Lib.hid own2; have OG := Lib.hid (grown_only g2); have W2 := Lib.hid (show Wr w2 q (.pointer (some ⟨q, 0, none⟩)) vb s e from W1.out.only OG.out (fun z => by have := (OW1.out.lt q z).1; omega)); obtain ⟨d0, d1, d2_, d3, g0, g1⟩ := W2.out.cells; clear own2 g2 c0 c1 c2 c3 f0 f1))
 go_ret2
 have el : (l ++ t.data.toList).length = l.length + t.size := by
  rw [List.length_append]
  congr 1
 have ec : bcs (l ++ t.data.toList) = bcs l ++ Lib.strCells t := List.map_append
 have ob := only_cell w2 q 1 (.slice A2 (l.length + t.size) d2)
 have o3 := ownsRow_only OW2.out ob (fun k e => by omega)
 refine ⟨⟨_, rfl⟩, ⟨_, _, .inr rfl, W2.out.set1 _, by rw [el, ec]; exact o3⟩, ?_⟩
 have b1 := O1.out.below (B := q) (fun n e => by omega) (Nat.le_of_lt HQ.out)
 have b2 := OG.out.below (B := q) (fun n e => by have := (OW1.out.lt n e).1; omega) (Nat.le_of_lt S1.out)
 have b3 := ob.below (B := q) (fun n e => by omega) (Nat.le_trans (Nat.le_of_lt S1.out) OG.out.size)
 have t1 := Kt.of_only (q := q) O1.out (fun k C t fr h1 _ _ e => h1 e)
 have t2 := Kt.of_only (q := q) OG.out (fun k C t fr _ h2 h3 e => own_not OW1.out h2 h3 e)
 have t3 := Kt.of_only (q := q) ob (fun k C t fr h1 _ _ e => h1 e)
 exact ⟨(b1.trans b2).trans b3, (t1.trans t2).trans t3⟩
end Go.Proofs.YtbcjpnmakcmndaaGreatDoor
/- Package tree: Text of one small tree: what its writers write. -/
namespace Go.Proofs.YtbcjpnmakcmndaaGreatDoor
open Go.RowKit PrM
set_option linter.unusedVariables false
set_option linter.unusedSimpArgs false
set_option maxRecDepth 20000 in
set_option maxHeartbeats 2000000 in
theorem add_one {w : World} {q s e g : Nat} {l : List UInt8} (h : WS w q s e l) (t : ByteArray) (hn : l.length + t.size ≤ 100000) (hc : w.cell? ⟨g, 0, none⟩ = some (.string t)) :
  Calls Tryz.prog 106 #[.pointer (some ⟨q, 0, none⟩), .slice (some ⟨g, 0, none⟩) 1 1] w fun en w' => en = .returned (.tuple #[]) ∧ WS w' q s e (l ++ t.data.toList) ∧ Below q w w' ∧ Kt q w w' := by
 have AD := Lib.hid (ws_add h t hn)
 clear h hn
 go_enter Tryz.func106, Tryz.ntmps106
 go_wp2_with fail
 go_loopw [5, 8] (fun u5 u8 wr => ∃ (i : Nat) (v : Value), u5 = v ∧ u8 = .int .i64 (i : Int) ∧ i ≤ 1 ∧ (i = 0 → wr = w) ∧ (i = 1 → WS wr q s e (l ++ t.data.toList) ∧ Below q w wr ∧ Kt q w wr)) (fun _ u8 _ => 1 - (intOf u8).toNat)
 case atStart => exact ⟨0, undef, rfl, rfl, Nat.zero_le _, fun _ => rfl, fun z => absurd z (by decide)⟩
 case round =>
  obtain ⟨i, v, rfl, rfl, hi, h0, h1⟩ := hrel
  match i, hi with
  | 0, _ =>
   obtain rfl : wr = w := h0 rfl
   clear h0 h1
   go_wp2_with (go_at_call 155; refine AD.out.mono ?_; rintro en w1 ⟨⟨v1, rfl⟩, ws, b⟩; have W1 := Lib.hid ws; have B1 := Lib.hid b; clear ws b)
   exact ⟨⟨1, _, rfl, rfl, Nat.le_refl _, fun z => absurd z (by decide), fun _ => ⟨W1.out, B1.out⟩⟩, by simp [intOf]⟩
  | 1, _ =>
   obtain ⟨ws, b⟩ := h1 rfl
   have W1 := Lib.hid ws
   have B1 := Lib.hid b
   clear h0 h1 ws b
   go_wp2_with fail
   go_end0
   exact ⟨rfl, W1.out, B1.out⟩
theorem ownsMap_same {w w' : World} {b n : Nat} {D : DataW Value} (h : w.ownsMap Tryz.prog 3 heldF b n D) (k : w'.heap[b]? = w.heap[b]?) : w'.ownsMap Tryz.prog 3 heldF b n D := by
 obtain ⟨es, clock, hb, F, hs, hD⟩ := h
 exact ⟨es, clock, k.trans hb, F, hs, hD⟩
/-- A writer with its tables, that has written l. -/
def TS (w : World) (q s e : Nat) (l : List UInt8) : Prop := WS w q s e l ∧ (∃ n, w.ownsMap Tryz.prog 3 heldF s n (fill DS)) ∧ (∃ n, w.ownsMap Tryz.prog 3 heldF e n (fill DE)) ∧ s < q ∧ e < q ∧ q < w.heap.size
theorem TS.next {w w' : World} {q s e : Nat} {l l' : List UInt8} (h : TS w q s e l) (ws : WS w' q s e l') (b : Below q w w') : TS w' q s e l' := by
 obtain ⟨-, ⟨n, h1⟩, ⟨m, h2⟩, h3, h4, h5⟩ := h
 exact ⟨ws, ⟨n, ownsMap_same h1 (b.block s h3)⟩, ⟨m, ownsMap_same h2 (b.block e h4)⟩, h3, h4, Nat.lt_of_lt_of_le h5 b.size⟩
theorem WS.bel {w w' : World} {q s e : Nat} {l : List UInt8} (h : WS w q s e l) (b : Below w.heap.size w w') : WS w' q s e l := by
 obtain ⟨p, vb, hp, hw, own⟩ := h
 have hq : q < w.heap.size := by
  have h : w.heap[q]? = _ := hw
  exact (Array.getElem?_eq_some_iff.1 h).1
 exact ⟨p, vb, hp, (b.block q hq).trans hw, ownsRow_only own (Only.of_below (F := fun _ => False) b) (fun _ f => f.elim)⟩
theorem TS.bel {w w' : World} {q s e : Nat} {l : List UInt8} (h : TS w q s e l) (b : Below w.heap.size w w') : TS w' q s e l :=
 h.next (h.1.bel b) (b.mono (Nat.le_of_lt h.2.2.2.2.2))
theorem TS.look {w : World} {q s e : Nat} {l : List UInt8} (h : TS w q s e l) : ∃ p vb, w.cell? ⟨q, 0, none⟩ = some p ∧ w.cell? ⟨q, 1, none⟩ = some vb ∧ w.cell? ⟨q, 2, none⟩ = some (.map (some s)) ∧ w.cell? ⟨q, 3, none⟩ = some (.map (some e)) := by
 obtain ⟨⟨p, vb, -, hw, -⟩, -⟩ := h
 obtain ⟨c0, c1, c2, c3, -⟩ := hw.cells
 exact ⟨p, vb, c0, c1, c2, c3⟩
theorem cell_new {w : World} {b : Nat} {v : Value} {t : TypeId} (k : Blk w b #[v] t) : w.cell? ⟨b, 0, none⟩ = some v := by
 have k : w.heap[b]? = _ := k
 simp [World.cell?, k]
/-- A number's text. -/
theorem fmt_one (w : World) : Calls Tryz.prog 146 #[.int .i64 1, .int .i64 10] w fun en w' => en = .returned (.string ⟨(Lib.decDigits 1).toArray⟩) ∧ w' = w := by
 have h := fun w => Tryz.internal_strconv_FormatInt_10_small 1 (by decide) w
 go_enter Tryz.func146, Tryz.ntmps146
 go_wp2_with (go_at_call 175; refine (h _).mono ?_; rintro en w1 ⟨rfl, rfl⟩)
 go_ret
 exact ⟨rfl, rfl⟩
abbrev E1 : Array Value := #[.int .i64 4, .int .i64 10, .int .i64 1, .string ⟨#[]⟩, .int .i64 0, .slice none 0 0, .slice none 0 0]
set_option maxRecDepth 20000 in
set_option maxHeartbeats 2000000 in
theorem w_int {w : World} {q s e : Nat} {l : List UInt8} (h : TS w q s e l) (hn : l.length ≤ 1000) :
  Calls Tryz.prog 93 #[.pointer (some ⟨q, 0, none⟩), .agg E1] w fun en w' => en = .returned (.tuple #[]) ∧ (∃ l', TS w' q s e l' ∧ l.length ≤ l'.length ∧ l'.length ≤ l.length + 100) ∧ Below q w w' ∧ Kt q w w' := by
 obtain ⟨D, hD⟩ : ∃ D : ByteArray, (⟨(Lib.decDigits 1).toArray⟩ : ByteArray) = D := ⟨_, rfl⟩
 have hs : D.size ≤ 100 := by rw [← hD]; decide +kernel
 have FM := Lib.hid fmt_one
 rw [hD] at FM
 obtain ⟨⟨k0, k1, k2, k3, k4, k5, k6⟩, -⟩ := (Blk.new w E1 41).seven
 have BW := (((Below.refl w.heap.size w).alloc (Nat.le_refl _) (.cells E1 41)).alloc (Nat.le_of_lt (al_lt w _)) (.cells #[.string D] 9))
 have T2 := h.bel BW
 have cc : ((w.alloc (.cells E1 41)).alloc (.cells #[.string D] 9)).cell? ⟨w.heap.size + 1, 0, none⟩ = some (.string D) := by
  have k := Blk.new (w.alloc (.cells E1 41)) #[.string D] 9
  rw [World.size_alloc] at k
  exact cell_new k
 have AD := Lib.hid (add_one T2.1 D (by omega) cc)
 have HT := Lib.hid T2
 have HB := Lib.hid BW
 have HS := Lib.hid hs
 have HQ := Lib.hid h.2.2.2.2.2
 clear h hn hD hs BW T2 cc
 go_enter Tryz.func93, Tryz.ntmps93
 go_wp2_with (first
  |(go_at_call 146; refine (FM.out _).mono ?_; rintro en w1 ⟨rfl, rfl⟩)
  |(go_at_call 106; refine AD.out.mono ?_; rintro en w2 ⟨rfl, ws, b⟩; have W2 := Lib.hid ws; have B2 := Lib.hid b; clear ws b))
 go_end0
 refine ⟨rfl, ⟨_, HT.out.next W2.out B2.out.1, by simp, ?_⟩, (HB.out.mono (Nat.le_of_lt HQ.out)).trans B2.out.1, (Kt.of_below HB.out).trans B2.out.2⟩
 have e : (l ++ D.data.toList).length = l.length + D.size := by
  rw [List.length_append]
  congr 1
 have := HS.out
 omega
end Go.Proofs.YtbcjpnmakcmndaaGreatDoor
/- Package tree: Text of one small tree: an expression, a statement, the whole. -/
namespace Go.Proofs.YtbcjpnmakcmndaaGreatDoor
open Go.RowKit PrM
set_option linter.unusedVariables false
set_option linter.unusedSimpArgs false
set_option maxRecDepth 20000 in
set_option maxHeartbeats 2000000 in
theorem w_exp {w : World} {q s e : Nat} {l : List UInt8} (h : TS w q s e l) (hn : l.length ≤ 1000) :
  Calls Tryz.prog 140 #[.pointer (some ⟨q, 0, none⟩), .agg E1] w fun en w' => en = .returned (.tuple #[]) ∧ (∃ l', TS w' q s e l' ∧ l.length ≤ l'.length ∧ l'.length ≤ l.length + 100) ∧ Below q w w' ∧ Kt q w w' := by
 have BW := (Below.refl w.heap.size w).alloc (Nat.le_refl _) (.cells E1 41)
 have T2 := h.bel BW
 obtain ⟨⟨k0, k1, k2, k3, k4, k5, k6⟩, -⟩ := (Blk.new w E1 41).seven
 obtain ⟨p, vb, c0, c1, c2, c3⟩ := T2.look
 obtain ⟨n, om⟩ := T2.2.2.1
 have lk := look_E (w := (w.alloc (.cells E1 41)).drew) (ownsMap_same om rfl)
 have WI := Lib.hid (w_int (T2.bel (Below.refl _ _).drew) hn)
 have HB := Lib.hid (BW.drew)
 have HQ := Lib.hid h.2.2.2.2.2
 clear h hn BW T2 om
 go_enter Tryz.func140, Tryz.ntmps140
 go_wp2_with fail
 go_region
 go_wp2_with fail
 go_at_call 93
 refine WI.out.mono ?_
 rintro en w1 ⟨rfl, ⟨l', ts, h1, h2⟩, b⟩
 have TS1 := Lib.hid ts
 have L1 := Lib.hid (And.intro h1 h2)
 have B1 := Lib.hid b
 clear ts h1 h2 b
 go_wp2_with fail
 go_end0
 exact ⟨rfl, ⟨l', TS1.out, L1.out.1, L1.out.2⟩, (HB.out.mono (Nat.le_of_lt HQ.out)).trans B1.out.1, (Kt.of_below HB.out).trans B1.out.2⟩
/-- A writer adds one text that is made for it. -/
theorem add_lit {w : World} {q s e : Nat} {l : List UInt8} (h : TS w q s e l) (hn : l.length ≤ 2000) (t : ByteArray) (ht : t.size ≤ 100) :
  Calls Tryz.prog 106 #[.pointer (some ⟨q, 0, none⟩), .slice (some ⟨w.heap.size, 0, none⟩) 1 1] (w.alloc (.cells #[.string t] 9)) fun en w' => en = .returned (.tuple #[]) ∧ (∃ l', TS w' q s e l' ∧ l.length + t.size ≤ l'.length ∧ l'.length ≤ l.length + 100) ∧ Below q w w' ∧ Kt q (w.alloc (.cells #[.string t] 9)) w' := by
 have b := (Below.refl w.heap.size w).alloc (Nat.le_refl _) (.cells #[.string t] 9)
 have T2 := h.bel b
 refine (add_one T2.1 t (by omega) (cell_new (Blk.new w #[.string t] 9))).mono ?_
 rintro en w' ⟨rfl, ws, b2, kt⟩
 have el : (l ++ t.data.toList).length = l.length + t.size := by
  rw [List.length_append]
  congr 1
 exact ⟨rfl, ⟨_, T2.next ws b2, by omega, by omega⟩, (b.mono (Nat.le_of_lt h.2.2.2.2.2)).trans b2, kt⟩
abbrev S1 (v : Value) : Array Value := #[.int .i64 10, .int .i64 3, .slice none 0 0, v, .slice none 0 0]
theorem cell_bel {w w' : World} {q : Nat} {a : Addr} {v : Value} (b : Below q w w') (h : a.block < q) (k : w.cell? a = some v) : w'.cell? a = some v := by
 rw [World.cell?_of_block (b.block a.block h)]
 exact k
theorem kt_stat {w w' : World} {q b : Nat} {C : Array Value} (h : Kt q w w') (hb : b ≠ q) (k : Blk w b C 34) : Blk w' b C 34 := (h b C _ _ hb (by decide) k).trans k
set_option maxRecDepth 20000 in
set_option maxHeartbeats 4000000 in
theorem w_ret {w : World} {q s e : Nat} {l : List UInt8} {p : Addr} {c : Nat} (h : TS w q s e l) (hn : l.length ≤ 100) (hp : p.block < q)
  (c0 : w.cell? p = some (.int .i64 4)) (c1 : w.cell? ⟨p.block, p.off + 1, none⟩ = some (.int .i64 10)) (c2 : w.cell? ⟨p.block, p.off + 2, none⟩ = some (.int .i64 1)) (c3 : w.cell? ⟨p.block, p.off + 3, none⟩ = some (.string ⟨#[]⟩)) (c4 : w.cell? ⟨p.block, p.off + 4, none⟩ = some (.int .i64 0)) (c5 : w.cell? ⟨p.block, p.off + 5, none⟩ = some (.slice none 0 0)) (c6 : w.cell? ⟨p.block, p.off + 6, none⟩ = some (.slice none 0 0)) :
  Calls Tryz.prog 88 #[.pointer (some ⟨q, 0, none⟩), .agg (S1 (.slice (some p) 1 c))] w fun en w' => en = .returned (.tuple #[]) ∧ (∃ l', TS w' q s e l' ∧ 0 < l'.length ∧ l'.length ≤ l.length + 400) ∧ Below q w w' ∧ Kt q w w' := by
 have HQ := Lib.hid h.2.2.2.2.2
 have BA := (Below.refl w.heap.size w).alloc (Nat.le_refl _) (.cells (S1 (.slice (some p) 1 c)) 34)
 have Ta := h.bel BA
 have KA := Blk.new w (S1 (.slice (some p) 1 c)) 34
 have AD1 := add_lit Ta (by omega) ⟨#[114, 101, 116, 117, 114, 110]⟩ (by decide)
 rw [World.size_alloc] at AD1
 have BQ := Lib.hid (BA.mono (Nat.le_of_lt HQ.out))
 have KT := Lib.hid (Kt.of_below (q := q) BA)
 have KTs := Lib.hid (Kt.of_below (q := q) (al_below (w.alloc (.cells (S1 (.slice (some p) 1 c)) 34)) (.cells #[.string ⟨#[114, 101, 116, 117, 114, 110]⟩] 9)))
 have AD := Lib.hid AD1
 have NQ := Lib.hid (show w.heap.size ≠ q by have := HQ.out; omega)
 have HN := Lib.hid hn
 have HP := Lib.hid hp
 have C0 := Lib.hid c0
 have C1 := Lib.hid c1
 have C2 := Lib.hid c2
 have C3 := Lib.hid c3
 have C4 := Lib.hid c4
 have C5 := Lib.hid c5
 have C6 := Lib.hid c6
 have KS := Lib.hid (kt_stat KTs.out NQ.out KA)
 obtain ⟨⟨z0, z1, z2, z3, z4⟩, -⟩ := KA.five
 clear h hn hp c0 c1 c2 c3 c4 c5 c6 BA Ta AD1 KA
 go_enter Tryz.func88, Tryz.ntmps88
 go_wp2_with (first
  |(go_at_call 106; (with_reducible refine AD.out.mono ?_); rintro en w1 ⟨rfl, ⟨l1, ts, x1, x2⟩, b, kt⟩; have T1 := Lib.hid ts; have X1 := Lib.hid (And.intro x1 x2); have B1 := Lib.hid (BQ.out.trans b); have K1 := Lib.hid ((KT.out.trans KTs.out).trans kt); have S1 := Lib.hid (kt_stat kt NQ.out KS.out); obtain ⟨⟨y0, y1, y2, y3, y4⟩, -⟩ := S1.out.five; have AD2 := Lib.hid (add_lit T1.out (by have := HN.out; omega) ⟨#[32]⟩ (by decide)); have KU := Lib.hid (Kt.of_below (q := q) (al_below w1 (.cells #[.string ⟨#[32]⟩] 9))); clear ts x1 x2 b kt z0 z1 z2 z3 z4)
  |(go_at_call 106; (with_reducible refine AD2.out.mono ?_); rintro en w2 ⟨rfl, ⟨l2, ts, x1, x2⟩, b, kt⟩; have T2 := Lib.hid ts; have X2 := Lib.hid (And.intro x1 x2); have B2 := Lib.hid (B1.out.trans b); have K2 := Lib.hid ((K1.out.trans KU.out).trans kt); have S2 := Lib.hid (kt_stat (KU.out.trans kt) NQ.out S1.out); obtain ⟨⟨x0_, x1_, x2_, x3_, x4_⟩, -⟩ := S2.out.five; have e0 := cell_bel B2.out HP.out C0.out; have e1 := cell_bel (a := ⟨p.block, p.off + 1, none⟩) B2.out HP.out C1.out; have e2 := cell_bel (a := ⟨p.block, p.off + 2, none⟩) B2.out HP.out C2.out; have e3 := cell_bel (a := ⟨p.block, p.off + 3, none⟩) B2.out HP.out C3.out; have e4 := cell_bel (a := ⟨p.block, p.off + 4, none⟩) B2.out HP.out C4.out; have e5 := cell_bel (a := ⟨p.block, p.off + 5, none⟩) B2.out HP.out C5.out; have e6 := cell_bel (a := ⟨p.block, p.off + 6, none⟩) B2.out HP.out C6.out; have EXP := Lib.hid (w_exp T2.out (by have := HN.out; have := X1.out.2; have := X2.out.2; omega)); clear ts x1 x2 b kt y0 y1 y2 y3 y4)
  |(go_at_call 140; refine EXP.out.mono ?_; rintro en w3 ⟨rfl, ⟨l3, ts, x1, x2⟩, b, kt⟩; have T3 := Lib.hid ts; have X3 := Lib.hid (And.intro x1 x2); have B3 := Lib.hid (B2.out.trans b); have K3 := Lib.hid (K2.out.trans kt); clear ts x1 x2 b kt))
 go_end0
 exact ⟨rfl, ⟨l3, T3.out, (by have a1 : l.length + 6 ≤ l1.length := X1.out.1; have a2 := X2.out.1; have a3 := X3.out.1; omega), (by have a1 := X1.out.2; have a2 := X2.out.2; have a3 := X3.out.2; omega)⟩, B3.out, K3.out⟩
set_option maxRecDepth 20000 in
set_option maxHeartbeats 4000000 in
theorem w_block {w : World} {q s e : Nat} {p r : Addr} {c d : Nat} (h : TS w q s e []) (hp : p.block < q) (hr : r.block < q)
  (c0 : w.cell? p = some (.int .i64 4)) (c1 : w.cell? ⟨p.block, p.off + 1, none⟩ = some (.int .i64 10)) (c2 : w.cell? ⟨p.block, p.off + 2, none⟩ = some (.int .i64 1)) (c3 : w.cell? ⟨p.block, p.off + 3, none⟩ = some (.string ⟨#[]⟩)) (c4 : w.cell? ⟨p.block, p.off + 4, none⟩ = some (.int .i64 0)) (c5 : w.cell? ⟨p.block, p.off + 5, none⟩ = some (.slice none 0 0)) (c6 : w.cell? ⟨p.block, p.off + 6, none⟩ = some (.slice none 0 0))
  (r0 : w.cell? r = some (.int .i64 10)) (r1 : w.cell? ⟨r.block, r.off + 1, none⟩ = some (.int .i64 3)) (r2 : w.cell? ⟨r.block, r.off + 2, none⟩ = some (.slice none 0 0)) (r3 : w.cell? ⟨r.block, r.off + 3, none⟩ = some (.slice (some p) 1 c)) (r4 : w.cell? ⟨r.block, r.off + 4, none⟩ = some (.slice none 0 0)) :
  Calls Tryz.prog 43 #[.pointer (some ⟨q, 0, none⟩), .slice (some r) 1 d] w fun en w' => en = .returned (.tuple #[]) ∧ (∃ l', TS w' q s e l' ∧ 0 < l'.length ∧ l'.length ≤ 1000) ∧ Below q w w' := by
 have HT := Lib.hid h
 have HQ := Lib.hid h.2.2.2.2.2
 have HP := Lib.hid hp
 obtain ⟨w2, hw2⟩ : ∃ w2, w2 = w.alloc (.cells (S1 (.slice (some p) 1 c)) 34) := ⟨_, rfl⟩
 have bb : Hid (Below w.heap.size w w2) := Lib.hid (by rw [hw2]; exact al_below w _)
 have K2 : Hid (Blk w2 w.heap.size (S1 (.slice (some p) 1 c)) 34) := Lib.hid (by rw [hw2]; exact Blk.new w _ _)
 have T2 := Lib.hid (h.bel bb.out)
 have BQ := Lib.hid (bb.out.mono (Nat.le_of_lt HQ.out)).drew
 obtain ⟨⟨z0, z1, z2, z3, z4⟩, -⟩ := K2.out.five
 obtain ⟨pp, vb, y0, y1, y2, y3⟩ := T2.out.look
 obtain ⟨n, om⟩ := T2.out.2.1
 have lk := look_S (w := w2.drew) (ownsMap_same om rfl)
 have WR := Lib.hid (w_ret (c := c) (T2.out.bel (Below.refl _ _).drew) (Nat.zero_le _) hp (cell_bel BQ.out hp c0) (cell_bel (a := ⟨p.block, p.off + 1, none⟩) BQ.out hp c1) (cell_bel (a := ⟨p.block, p.off + 2, none⟩) BQ.out hp c2) (cell_bel (a := ⟨p.block, p.off + 3, none⟩) BQ.out hp c3) (cell_bel (a := ⟨p.block, p.off + 4, none⟩) BQ.out hp c4) (cell_bel (a := ⟨p.block, p.off + 5, none⟩) BQ.out hp c5) (cell_bel (a := ⟨p.block, p.off + 6, none⟩) BQ.out hp c6))
 have HW2 := Lib.hid hw2
 clear h hp hr c0 c1 c2 c3 c4 c5 c6 bb om hw2
 go_enter Tryz.func43, Tryz.ntmps43
 go_wp2_with fail
 go_loopw [5, 6, 7, 10] (fun u5 u6 u7 u10 wr => ∃ (i : Nat) (v5 v6 v7 : Value), u5 = v5 ∧ u6 = v6 ∧ u7 = v7 ∧ u10 = .int .i64 (i : Int) ∧ i ≤ 1 ∧ (i = 0 → wr = w) ∧ (i = 1 → (∃ l', TS wr q s e l' ∧ 0 < l'.length ∧ l'.length ≤ 1000) ∧ Below q w wr)) (fun _ _ _ u10 _ => 1 - (intOf u10).toNat)
 case atStart => exact ⟨0, _, _, _, rfl, rfl, rfl, rfl, Nat.zero_le _, fun _ => rfl, fun z => absurd z (by decide)⟩
 case round =>
  obtain ⟨i, v5, v6, v7, rfl, rfl, rfl, rfl, hi, h0, h1⟩ := hrel
  match i, hi with
  | 0, _ =>
   obtain rfl : wr = w := h0 rfl
   clear h0 h1
   go_wp2_with fail
   rw [show wr.alloc (.cells #[.int .i64 10, .int .i64 3, .slice none 0 0, .slice (some p) 1 c, .slice none 0 0] 34) = w2 from HW2.out.symm]
   go_region
   go_wp2_with (first
    |(go_at_call 88; refine WR.out.mono ?_; rintro en w3 ⟨rfl, ⟨l3, ts, x1, x2⟩, b, kt⟩; have T3 := Lib.hid ts; have X3 := Lib.hid (And.intro x1 x2); have B3 := Lib.hid (BQ.out.trans b); have AD := Lib.hid (add_lit T3.out (by simp at x2; omega) ⟨#[10]⟩ (by decide)); clear ts x1 x2 b kt)
    |(go_at_call 106; refine AD.out.mono ?_; rintro en w4 ⟨rfl, ⟨l4, ts, x1, x2⟩, b, kt⟩; have T4 := Lib.hid ts; have X4 := Lib.hid (And.intro x1 x2); have B4 := Lib.hid (B3.out.trans b); clear ts x1 x2 b kt))
   refine ⟨⟨1, _, _, _, rfl, rfl, rfl, rfl, Nat.le_refl _, fun z => absurd z (by decide), fun _ => ⟨⟨l4, T4.out, (by have a1 : l3.length + 1 ≤ l4.length := X4.out.1; omega), (by have a1 := X4.out.2; have a2 := X3.out.2; simp at a2; omega)⟩, B4.out⟩⟩, by simp [intOf]⟩
  | 1, _ =>
   obtain ⟨⟨l', ts, x1, x2⟩, b⟩ := h1 rfl
   have W1 := Lib.hid ts
   have B1 := Lib.hid b
   have X1 := Lib.hid (And.intro x1 x2)
   clear h0 h1 ts b x1 x2
   go_wp2_with fail
   go_end0
   exact ⟨rfl, ⟨l', W1.out, X1.out.1, X1.out.2⟩, B1.out⟩
end Go.Proofs.YtbcjpnmakcmndaaGreatDoor
/- Package tree: Text of one small tree: the whole. -/
namespace Go.Proofs.YtbcjpnmakcmndaaGreatDoor
open Go.RowKit PrM
set_option linter.unusedVariables false
set_option linter.unusedSimpArgs false
theorem underPU : Tryz.prog.underlying 111 = some (.pointer 5) := by kernel_rfl
theorem cellsU : Tryz.prog.cellsOf 5 = 1 := by kernel_rfl
set_option maxRecDepth 20000 in
set_option maxHeartbeats 2000000 in
/-- What a writer has written, as a text. -/
theorem w_string {w : World} {q s e : Nat} {l : List UInt8} (h : WS w q s e l) (hn : 0 < l.length) :
  Calls Tryz.prog 44 #[.pointer (some ⟨q, 0, none⟩)] w fun en w' => (∃ t : ByteArray, en = .returned (.string t) ∧ 0 < t.size) ∧ Below q w w' := by
 obtain ⟨p, vb, hp, hw, own⟩ := h
 have own2 := own
 rcases own.2 with ⟨rfl, e0⟩ | ⟨g, cap, cur, rfl, hg, hb, hc, hm, hs, ht⟩
 ·exact absurd e0 (by omega)
 obtain ⟨c0, c1, c2, c3, -⟩ := hw.cells
 have hsd : (Builtin.unsafeSliceData_ #[73] 111 #[.slice (some ⟨g, 0, none⟩) l.length cap]).run Tryz.prog w.drew = .ok (.pointer (some ⟨g, 0, none⟩)) w.drew := Lib.run_unsafeSliceData_row _ _ _ _ _ _ (by omega)
 have hus : (Builtin.unsafeString_ #[111, 3] 9 #[.pointer (some ⟨g, 0, none⟩), .int .i64 l.length]).run Tryz.prog w.drew = .ok (.string ⟨l.toArray⟩) (w.drew.freeze ⟨g, 0, none⟩ l.length) := by
  refine Lib.run_unsafeString_row w.drew 111 3 9 5 underPU cellsU g cur.size (by have hb' : w.drew.heap[g]? = _ := hb; simp [World.shape?, hb']) l (fun z => by rw [z] at hn; exact absurd hn (by decide)) (by omega) (by unfold maxLen at hm; omega) ?_
  intro j x hx
  exact own2.cells (g := g) rfl j (.int .u8 x.toNat) (by unfold bcs; rw [List.getElem?_map, hx]; rfl)
 have HG := Lib.hid hg
 have HN := Lib.hid (show 0 < (⟨l.toArray⟩ : ByteArray).size from by show 0 < l.toArray.size; simpa using hn)
 clear own own2 hw hb hc hm hs ht hg hn
 go_enter Tryz.func44, Tryz.ntmps44
 go_wp2_with fail
 go_region
 all_goals
  go_wp2_with fail
  go_ret
  exact ⟨⟨_, rfl, HN.out⟩, Lib.below_freeze (Below.drew (Below.refl q w)) (p := ⟨g, 0, none⟩) (Nat.le_of_succ_le HG.out) _⟩
theorem ts_new {w w1 w2 : World} {n1 n2 : Nat} (o1 : w1.ownsMap Tryz.prog 3 heldF w.heap.size n1 (fill DS)) (l1 : w.heap.size < w1.heap.size) (o2 : w2.ownsMap Tryz.prog 3 heldF w1.heap.size n2 (fill DE)) (b2 : Below w1.heap.size w1 w2) (l2 : w1.heap.size < w2.heap.size) :
  TS (w2.alloc (.cells #[.pointer none, .slice none 0 0, .map (some w.heap.size), .map (some w1.heap.size)] 77)) w2.heap.size w.heap.size w1.heap.size [] := by
 have b3 := al_below w2 (.cells #[.pointer none, .slice none 0 0, .map (some w.heap.size), .map (some w1.heap.size)] 77)
 refine ⟨⟨_, _, .inl rfl, Blk.new w2 _ _, ⟨rfl, .inl ⟨rfl, rfl⟩⟩⟩, ⟨n1, ownsMap_same (ownsMap_same o1 (b2.block _ l1)) (b3.block _ (Nat.lt_trans l1 l2))⟩, ⟨n2, ownsMap_same o2 (b3.block _ l2)⟩, Nat.lt_trans l1 l2, l2, al_lt w2 _⟩
set_option maxRecDepth 20000 in
set_option maxHeartbeats 4000000 in
/-- Text of a return of one number: some bytes. -/
theorem text_any {w : World} {p r : Addr} {c d : Nat} (hp : p.block < w.heap.size) (hr : r.block < w.heap.size)
  (c0 : w.cell? p = some (.int .i64 4)) (c1 : w.cell? ⟨p.block, p.off + 1, none⟩ = some (.int .i64 10)) (c2 : w.cell? ⟨p.block, p.off + 2, none⟩ = some (.int .i64 1)) (c3 : w.cell? ⟨p.block, p.off + 3, none⟩ = some (.string ⟨#[]⟩)) (c4 : w.cell? ⟨p.block, p.off + 4, none⟩ = some (.int .i64 0)) (c5 : w.cell? ⟨p.block, p.off + 5, none⟩ = some (.slice none 0 0)) (c6 : w.cell? ⟨p.block, p.off + 6, none⟩ = some (.slice none 0 0))
  (r0 : w.cell? r = some (.int .i64 10)) (r1 : w.cell? ⟨r.block, r.off + 1, none⟩ = some (.int .i64 3)) (r2 : w.cell? ⟨r.block, r.off + 2, none⟩ = some (.slice none 0 0)) (r3 : w.cell? ⟨r.block, r.off + 3, none⟩ = some (.slice (some p) 1 c)) (r4 : w.cell? ⟨r.block, r.off + 4, none⟩ = some (.slice none 0 0)) :
  Calls Tryz.prog 21 #[.slice (some r) 1 d] w fun en w' => (∃ t : ByteArray, en = .returned (.string t) ∧ 0 < t.size) ∧ Below w.heap.size w w' := by
 have ST := Lib.hid S_any
 have EX := Lib.hid E_any
 have HP := Lib.hid hp
 have HR := Lib.hid hr
 have Hc0 := Lib.hid c0
 have Hc1 := Lib.hid c1
 have Hc2 := Lib.hid c2
 have Hc3 := Lib.hid c3
 have Hc4 := Lib.hid c4
 have Hc5 := Lib.hid c5
 have Hc6 := Lib.hid c6
 have Hr0 := Lib.hid r0
 have Hr1 := Lib.hid r1
 have Hr2 := Lib.hid r2
 have Hr3 := Lib.hid r3
 have Hr4 := Lib.hid r4
 clear hp hr c0 c1 c2 c3 c4 c5 c6 r0 r1 r2 r3 r4
 go_enter Tryz.func21, Tryz.ntmps21
 go_wp2_with (first
  |(go_at_call 41; refine (ST.out _).mono ?_; rintro en w1 ⟨n1, D1, rfl, o1, rfl, b1, l1⟩; have O1 := Lib.hid o1; have B1 := Lib.hid b1; have L1 := Lib.hid l1; clear o1 b1 l1)
  |(go_at_call 42; refine (EX.out _).mono ?_; rintro en w2 ⟨n2, D2, rfl, o2, rfl, b2, l2⟩; have L2 := Lib.hid l2; have B2 := Lib.hid (B1.out.trans (b2.mono B1.out.size)); have TN := Lib.hid (ts_new O1.out L1.out o2 b2 l2); have BX := Lib.hid (B2.out.trans ((al_below w2 (.cells #[.pointer none, .slice none 0 0, .map (some w.heap.size), .map (some w1.heap.size)] 77)).mono B2.out.size)); have SQ := Lib.hid (show w.heap.size ≤ w2.heap.size from B2.out.size); have WB := Lib.hid (w_block (c := c) (d := d) TN.out (Nat.lt_of_lt_of_le HP.out SQ.out) (Nat.lt_of_lt_of_le HR.out SQ.out) (cell_bel BX.out HP.out Hc0.out) (cell_bel (a := ⟨p.block, p.off + 1, none⟩) BX.out HP.out Hc1.out) (cell_bel (a := ⟨p.block, p.off + 2, none⟩) BX.out HP.out Hc2.out) (cell_bel (a := ⟨p.block, p.off + 3, none⟩) BX.out HP.out Hc3.out) (cell_bel (a := ⟨p.block, p.off + 4, none⟩) BX.out HP.out Hc4.out) (cell_bel (a := ⟨p.block, p.off + 5, none⟩) BX.out HP.out Hc5.out) (cell_bel (a := ⟨p.block, p.off + 6, none⟩) BX.out HP.out Hc6.out) (cell_bel BX.out HR.out Hr0.out) (cell_bel (a := ⟨r.block, r.off + 1, none⟩) BX.out HR.out Hr1.out) (cell_bel (a := ⟨r.block, r.off + 2, none⟩) BX.out HR.out Hr2.out) (cell_bel (a := ⟨r.block, r.off + 3, none⟩) BX.out HR.out Hr3.out) (cell_bel (a := ⟨r.block, r.off + 4, none⟩) BX.out HR.out Hr4.out)); clear o2 b2 l2)
  |(go_at_call 43; refine WB.out.mono ?_; rintro en w3 ⟨rfl, ⟨l3, ts, x1, x2⟩, b⟩; have B3 := Lib.hid (BX.out.trans (b.mono SQ.out)); have STR := Lib.hid (w_string ts.1 x1); clear ts x1 x2 b)
  |(go_at_call 44; refine STR.out.mono ?_; rintro en w4 ⟨⟨tx, rfl, tp⟩, b⟩; have TP := Lib.hid tp; have B4 := Lib.hid (B3.out.trans (b.mono SQ.out)); clear tp b))
 go_ret
 exact ⟨⟨tx, rfl, TP.out⟩, B4.out⟩
end Go.Proofs.YtbcjpnmakcmndaaGreatDoor
/- The laws' own check of package tree: told. -/
namespace Go.Proofs.YtbcjpnmakcmndaaGreatDoor
open Go.RowKit PrM
set_option linter.unusedVariables false
set_option linter.unusedSimpArgs false
/-- The law's own tree. -/
def LE : X := .e 4 10 1 ⟨#[]⟩ 0 .nil .nil
def L0 : X := X.one (.s 10 3 [] (X.one LE) .nil)
theorem L0_fit : L0.fit 100000 := by
 refine ⟨⟨⟨Nat.zero_le _, ⟨⟨⟨trivial, trivial⟩, Nat.zero_le _⟩, trivial, by decide⟩, trivial⟩, fun p hp => by cases hp⟩, trivial, by decide⟩
theorem L0_count : wrap64 L0.count = 2 := by
 show wrap64 ((1 + ((1 + 0 + 0) + 0) + 0) + 0) = 2
 unfold wrap64
 omega
theorem L0_deep : (X.blk L0).deep = 2 := by
 show wrap64 (1 + max (max (max (wrap64 (1 + max 0 0)) 0) 0) 0) = 2
 have e : wrap64 (1 + max (0 : Int) 0) = 1 := by unfold wrap64; omega
 rw [e]
 unfold wrap64
 omega
theorem L0_bare : L0.same L0.bare = false := by decide +kernel
abbrev SC (w : World) : Array Value := #[.int .i64 10, .int .i64 3, .slice none 0 0, .slice (some ⟨w.heap.size, 0, none⟩) 1 1, .slice none 0 0]
abbrev TW (w : World) : World := (w.alloc (.cells E1 41)).alloc (.cells (SC w) 34)
theorem L0_reads (w : World) : Sl L0.len (Rd (TW w) (Lo w) L0).row 5 (.slice (some ⟨w.heap.size + 1, 0, none⟩) 1 1) := by
 have h1 := slOneE (W := w) (w := w) (x := LE) (Nat.le_refl _) (leaf_cells w (Lo w) 4 10 1 ⟨#[]⟩ 0)
 have k := sl_new (w := w.alloc (.cells E1 41)) (P := Lo w) (own_one (x := .s 10 3 [] (X.one LE) .nil) (cs := SC w) ⟨_, _, _, rfl, strsN _ _, h1, sl_nil _ _ _⟩ rfl) (SC w) 34 rfl (fun _ hk _ => hk) (by rw [World.size_alloc]; exact Nat.le_succ _)
 rw [World.size_alloc] at k
 exact k
set_option maxRecDepth 20000 in
set_option maxHeartbeats 4000000 in
theorem told_any (w : World) : Calls Tryz.prog 9 #[] w fun en w' => en = .returned (.bool true) ∧ Below w.heap.size w w' := by
 have RD := Lib.hid (L0_reads w)
 have B0 := Lib.hid (((Below.refl w.heap.size w).alloc (Nat.le_refl _) (.cells E1 41)).alloc (Nat.le_of_lt (al_lt w _)) (.cells (SC w) 34))
 have KE := Lib.hid (blk_al (.cells (SC w) 34) (Blk.new w E1 41))
 have KS : Hid (Blk (TW w) (w.heap.size + 1) (SC w) 34) := Lib.hid (by have k := Blk.new (w.alloc (.cells E1 41)) (SC w) 34; rwa [World.size_alloc] at k)
 have LC := Lib.hid (fun W (b : Below (TW w).heap.size (TW w) W) => count_any (P := Lo w) L0_fit (Sl.bel b RD.out))
 have LD := Lib.hid (fun W (b : Below (TW w).heap.size (TW w) W) => tdeep_any (P := Lo w) L0_fit (Sl.bel b RD.out))
 have LN := Lib.hid (fun W => tdeep_any (w := W) (P := Lo w) (l := .nil) (v := .slice none 0 0) trivial (sl_nil _ _ _))
 have LS := Lib.hid (fun W (b : Below (TW w).heap.size (TW w) W) => same_any (P := Lo w) (Q := Lo w) L0_fit L0_fit (Sl.bel b RD.out) (Sl.bel b RD.out))
 have LB := Lib.hid (fun W (b : Below (TW w).heap.size (TW w) W) => bare_any (P := Lo w) L0_fit (Sl.bel b RD.out))
 unfold CR at LC
 rw [L0_count] at LC
 unfold DR at LD LN
 rw [L0_deep] at LD
 rw [show (X.blk X.nil).deep = 0 from rfl] at LN
 unfold SR at LS
 rw [same_refl] at LS
 unfold ES at LB
 have SQ : Hid (w.heap.size ≤ (TW w).heap.size) := Lib.hid (B0.out.size)
 have S1 : Hid (w.heap.size < (TW w).heap.size) := Lib.hid (by rw [World.size_alloc]; exact Nat.lt_succ_of_le (Nat.le_of_lt (al_lt w _)))
 have S2 : Hid (w.heap.size + 1 < (TW w).heap.size) := Lib.hid (by rw [World.size_alloc, World.size_alloc]; omega)
 go_enter Tryz.func9, Tryz.ntmps9
 go_wp2_with (first
  |(go_at_call 15; refine (LC.out _ (Below.refl _ _)).mono ?_; rintro en w1 ⟨rfl, b⟩; have B1 := Lib.hid b; clear b)
  |(go_at_call 17; (with_reducible refine (LD.out _ B1.out).mono ?_); rintro en w2 ⟨rfl, b⟩; have B2 := Lib.hid (B1.out.trans (b.mono B1.out.size)); clear b)
  |(go_at_call 17; (with_reducible refine (LN.out _).mono ?_); rintro en w3 ⟨rfl, b⟩; have B3 := Lib.hid (B2.out.trans (b.mono B2.out.size)); clear b)
  |(go_at_call 11; (with_reducible refine (LS.out _ B3.out).mono ?_); rintro en w4 ⟨rfl, b⟩; have B4 := Lib.hid (B3.out.trans (b.mono B3.out.size)); clear b)
  |(go_at_call 13; (with_reducible refine (LB.out _ B4.out).mono ?_); rintro en w5 ⟨v5, rfl, s5, b⟩; have B5 := Lib.hid (B4.out.trans (b.mono B4.out.size)); obtain ⟨A5, c5, rfl⟩ := sl_slice s5; have LU : Hid (Calls _ _ _ _ (SR (L0.same L0.bare) w5)) := Lib.hid (same_any L0_fit (X.fit_bare _ L0_fit) (Sl.bel B5.out RD.out) s5); clear b s5; unfold SR at LU; rw [L0_bare] at LU)
  |(go_at_call 11; (with_reducible refine LU.out.mono ?_); rintro en w6 ⟨rfl, b⟩; have B6 := Lib.hid (B5.out.trans (b.mono B5.out.size)); clear b; have KF := Lib.hid (KE.out.below B6.out S1.out); have KG := Lib.hid (KS.out.below B6.out S2.out); obtain ⟨⟨y0, y1, y2, y3, y4, y5, y6⟩, -⟩ := KF.out.seven; obtain ⟨⟨z0, z1, z2, z3, z4⟩, -⟩ := KG.out.five; have LT := Lib.hid (text_any (w := w6) (p := ⟨w.heap.size, 0, none⟩) (r := ⟨w.heap.size + 1, 0, none⟩) (c := 1) (d := 1) (Nat.lt_of_lt_of_le S1.out B6.out.size) (Nat.lt_of_lt_of_le S2.out B6.out.size) y0 y1 y2 y3 y4 y5 y6 z0 z1 z2 z3 z4))
  |(go_at_call 21; (with_reducible refine LT.out.mono ?_); rintro en w7 ⟨⟨t, rfl, tp⟩, b⟩; have TP := Lib.hid tp; have B7 := Lib.hid (B6.out.trans (b.mono B6.out.size)); clear b tp))
 go_ret
 exact ⟨by rw [decide_eq_true TP.out]; rfl, B0.out.trans (B7.out.mono SQ.out)⟩
end Go.Proofs.YtbcjpnmakcmndaaGreatDoor
