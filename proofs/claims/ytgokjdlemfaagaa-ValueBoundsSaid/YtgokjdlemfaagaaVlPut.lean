/- Package value: numbers and strings appended to bytes. -/
import Derived.Test.YtgokjdlemfaagaaVlMay
import Derived.Test.YtgokjdlemfaagaaBytes
import Derived.Lib.AppendStr
namespace Go.Proofs.Ytgokjdlemfaagaa
open Go.RowKit
set_option linter.unusedVariables false
/-- The lowest bytes of a number, the highest one first. -/
def be (size n : Nat) : List UInt8 := (List.range size).map fun i => UInt8.ofNat (n / 2 ^ (8 * (size - 1 - i)))
theorem be_length (size n : Nat) : (be size n).length = size := by simp [be]
theorem be_next (size n k : Nat) (h : k < size) : (be size n).take (k + 1) = (be size n).take k ++ [UInt8.ofNat (n / 2 ^ (8 * (size - 1 - k)))] := by
  have := take_more (be size n) k (by rw [be_length]; exact h)
  rw [this]
  simp [be]
/-- A row of bytes of the call's own that is appended to: where it lies, what stays. -/
def Grew (base : Nat) (w w' : World) (v v' : Value) : Prop := w.grownBy w' v.ownBlock ∧ (v'.ownBlock = v.ownBlock ∨ ∃ g, v'.ownBlock = some g ∧ w.heap.size ≤ g)
theorem Grew.trans {base : Nat} {w w' x : World} {v v' u : Value} (h : Grew base w w' v v') (k : Grew base w' x v' u) : Grew base w x v u := by
  obtain ⟨h1, h2⟩ := h
  obtain ⟨k1, k2⟩ := k
  refine ⟨⟨k1.os.trans h1.os, k1.tape.trans h1.tape, k1.output.trans h1.output, Nat.le_trans h1.size k1.size, fun i hi hn => ?_⟩, ?_⟩
  · refine (k1.block i (Nat.lt_of_lt_of_le hi h1.size) ?_).trans (h1.block i hi hn)
    rcases h2 with e | ⟨g, e, hg⟩
    · rw [e]; exact hn
    · rw [e]; intro q; have := Option.some.inj q; omega
  · rcases k2 with e | ⟨g, e, hg⟩
    · rcases h2 with e2 | ⟨g, e2, hg⟩
      · exact .inl (e.trans e2)
      · exact .inr ⟨g, e.trans e2, hg⟩
    · exact .inr ⟨g, e, Nat.le_trans h1.size hg⟩
theorem byte_val (n d : Nat) : (n : Int) / 2 ^ d % 256 = ((UInt8.ofNat (n / 2 ^ d)).toNat : Int) := by
  rw [UInt8.toNat_ofNat']
  simp
def Brow (w : World) (base : Nat) (v : Value) (l : List UInt8) : Prop := w.ownsRow base 5 1 v l.length (l.map bv)
set_option maxRecDepth 20000 in
set_option maxHeartbeats 2000000 in
theorem number_put (w : World) (base : Nat) (v : Value) (l : List UInt8) (n size : Nat) (h : Brow w base v l) (hb : base ≤ w.heap.size) (hl : l.length ≤ 1048576) (hz : size ≤ 8) (hn : n < 18446744073709551616) :
    Calls Try.prog 35 #[v, .int .u64 (n : Int), .int .i64 (size : Int)] w fun e w' => ∃ v', e = .returned v' ∧ Brow w' base v' (l ++ be size n) ∧ Grew base w w' v v' := by
  have H := Lib.hid h
  have HB := Lib.hid hb
  have HL := Lib.hid hl
  have s9 : (size : Int) ≤ 8 := by omega
  have s0 : (0 : Int) ≤ (size : Int) := by omega
  clear h hb
  go_enter Try.func35, Try.ntmps35
  go_wp2_with fail
  go_loopw [0, 9] (fun v0 i wr => ∃ (k : Nat) (v1 : Value), v0 = v1 ∧ k ≤ size ∧ i = .int .i64 k ∧ Brow wr base v1 (l ++ (be size n).take k) ∧ Grew base w wr v v1) (fun _ i _ => size - (intOf i).toNat)
  case atStart => exact ⟨0, _, rfl, Nat.zero_le _, rfl, by simpa using H.out, World.grownBy.refl w _, .inl rfl⟩
  case round =>
    obtain ⟨k, v', hv', hk, rfl, hr, hg⟩ := hrel
    obtain rfl := hv'.symm
    have HR := Lib.hid hr
    have HG := Lib.hid hg
    clear hr hg
    have k0 : (0 : Int) ≤ (k : Int) := by omega
    by_cases hlt : k < size
    · have k1 : (k : Int) < (size : Int) := by omega
      have nx := Lib.hid (be_next size n k hlt)
      have hbv := Lib.hid (byte_val n (8 * (size - 1 - k)))
      have hr2 : ∀ o, (wr.alloc o).ownsRow base 5 1 v' (l ++ (be size n).take k).length ((l ++ (be size n).take k).map bv) := fun o => World.ownsRow.alloc HR.out o
      have ln : Hid ((l ++ (be size n).take k).length + 1 ≤ 2097152) := by
        have h1 := HL.out
        show (l ++ (be size n).take k).length + 1 ≤ 2097152
        rw [List.length_append, List.length_take, be_length]; omega
      have hbs : base ≤ wr.heap.size := Nat.le_trans HB.out HG.out.1.size
      have HBS := Lib.hid hbs
      clear hbs
      obtain ⟨c, hc⟩ : ∃ c, UInt8.ofNat (n / 2 ^ (8 * (size - 1 - k))) = c := ⟨_, rfl⟩
      rw [hc] at nx hbv
      clear hc
      go_wp2_with (first
        | (at_builtin; refine wpList_append_bytes rfl (.tmp 12) (.tmp 21) rfl base _ _ _ rfl (hr2 _) (wr.heap.size + 1) (some ⟨wr.heap.size, 0, none⟩) 1 [c] rfl (fun e => nomatch e) (Bs.new _ _ _ _ _ (by rw [hbv.out]; rfl)) (by have := ln.out; simp only [List.length_cons, List.length_nil]; omega) (by have := ln.out; simp only [List.length_cons, List.length_nil]; omega) (by have := HBS.out; simp; omega) ?_; intro v2 w2 own2 g2 loc2))
      have g3 : Grew base w w2 v v2 := by
        have h1 : Grew base wr w2 v' v2 := by
          refine ⟨(World.grownBy_alloc wr _ _).trans g2, ?_⟩
          rcases loc2 with e | e
          · exact .inl e
          · exact .inr ⟨_, e, by simp⟩
        exact HG.out.trans h1
      go_roundw
      case rel =>
        refine ⟨k + 1, _, rfl, hlt, by go_num, ?_, g3⟩
        rw [nx.out, ← List.append_assoc]
        unfold Brow
        rw [List.map_append, List.length_append]
        exact own2
      case measure => simp [intOf]; omega
    · obtain rfl : k = size := by omega
      go_wp2_with fail
      go_ret
      refine ⟨_, rfl, ?_, HG.out⟩
      have := HR.out
      rw [List.take_of_length_le (by rw [be_length]; exact Nat.le_refl _)] at this
      exact this
def sbytes (s : ByteArray) : List UInt8 := s.data.toList
theorem sbytes_length (s : ByteArray) : (sbytes s).length = s.size := by unfold sbytes; rw [Array.length_toList]; rfl
theorem sbytes_cells (s : ByteArray) : Lib.strCells s = (sbytes s).map bv := rfl
/-- append of a string onto a row of bytes of the call's own: the row's block is the old one, or new. -/
theorem run_append_text (w : World) (base : Nat) (ty : TypeId) (v : Value) (l : List UInt8) (h : Brow w base v l) (s : ByteArray) (hl : l.length + s.size ≤ 4194304) (hb : base ≤ w.heap.size) :
    ∃ v' w', (Builtin.append_ #[31, 9] ty #[v, .string s]).run Try.prog w = .ok v' w' ∧ Brow w' base v' (l ++ sbytes s) ∧ Grew base w w' v v' := by
  obtain ⟨i, hi, hz, h1, h2⟩ := info_parts info8
  obtain ⟨v', w', hr, k2, k3, k4⟩ := Lib.run_append_own_string (P := Try.prog) w base 31 9 ty 5 i Try.underlying31 Try.underlying9 hi hz h1 h2 v l.length (l.map bv) h s (by unfold maxLen; omega) (by omega) hb
  refine ⟨v', w', hr, ?_, k3, ?_⟩
  · unfold Brow
    rw [List.map_append, List.length_append, sbytes_length, ← sbytes_cells]
    exact k2
  · rcases h.2 with ⟨rfl, h0⟩ | ⟨g, cap, cur, rfl, hbg, hg, hnc, hcm, hcs, htake⟩
    · by_cases hs : s.size = 0
      · exact .inl (by rw [k4.2 ⟨rfl, hs⟩])
      · have e := run_append_nil_string (P := Try.prog) w 31 9 ty 5 i (.int .u8 0) Try.underlying31 Try.underlying9 hi hz s (by omega) (by omega) (by rw [h2]; omega)
        rw [hr] at e
        injection e with e _
        exact .inr ⟨w.heap.size, by rw [e]; rfl, Nat.le_refl _⟩
    · by_cases hroom : l.length + s.size ≤ cap
      · have hcs2 : cur.size = cap := by simpa using hcs
        have e := Lib.run_append_room_string (P := Try.prog) w 31 9 ty 5 i Try.underlying31 Try.underlying9 hi h1 g l.length cap cur hg s hroom (by omega)
        rw [hr] at e
        injection e with e _
        exact .inl (by rw [e]; rfl)
      · have holds := World.ownsRow.cells h (g := g) rfl
        have e := Lib.run_append_grow_string (P := Try.prog) w 31 9 ty 5 i (.int .u8 0) Try.underlying31 Try.underlying9 hi hz ⟨g, 0, none⟩ l.length cap (l.map bv) (by rw [h1]; simp) holds s (by omega) (by omega) (by rw [h2]; exact growslice_fits (by omega) (by omega))
        rw [hr] at e
        injection e with e _
        exact .inr ⟨w.heap.size, by rw [e]; rfl, Nat.le_refl _⟩
/-- The operation, for the walk. -/
theorem wpList_append_text {w : World} {ops : Array Oper} {rest : List Oper} {o : Oper} {a : Act} {Q : Exit → Act → World → Prop} (hgd : o.guard = none) (s x : Operand)
    (ho : o.op = .call { callee := .builtin .append, args := #[s, x], argTypes := #[31, 9] })
    (base : Nat) (v : Value) (l : List UInt8) (hs : a.eval s = v) (h : Brow w base v l) (t : ByteArray) (hx : a.eval x = .string t) (hl : l.length + t.size ≤ 4194304) (hb : base ≤ w.heap.size)
    (k : ∀ v' w', Brow w' base v' (l ++ sbytes t) → Grew base w w' v v' → wpList Try.prog ops Q rest (a.put o.dst v') w') : wpList Try.prog ops Q (o :: rest) a w := by
  refine wpList_plain hgd fun K hK => ?_
  obtain ⟨v', w', hr, h2, h3⟩ := run_append_text w base o.type v l h t hl hb
  unfold Oper.wp execOp
  simp only [ho, resolve, invoke, builtin, Sem.run_bind, Sem.run_pure, Result.andThen_ok, List.map_toArray, List.map_cons, List.map_nil, hs, hx, hr]
  exact hK _ _ (k v' w' h2 h3)
theorem count_put (w : World) (base : Nat) (v : Value) (l : List UInt8) (n : Nat) (h : Brow w base v l) (hb : base ≤ w.heap.size) (hl : l.length ≤ 1048576) (hn : n < 9223372036854775808) :
    Calls Try.prog 17 #[v, .int .i64 (n : Int)] w fun e w' => ∃ v', e = .returned v' ∧ Brow w' base v' (l ++ be 4 n) ∧ Grew base w w' v v' := by
  have NP := Lib.hid (number_put w base v l n 4 h hb hl (by omega) (by omega))
  have e1 : IntKind.u64.wrap (n : Int) = (n : Int) := by rw [IntKind.wrap_u64]; omega
  clear h hb hl hn
  go_enter Try.func17, Try.ntmps17
  go_wp2_with (go_at_call 35; refine NP.out.mono ?_; rintro e w' ⟨v', rfl, h2, h3⟩)
  go_ret
  exact ⟨_, rfl, h2, h3⟩
set_option maxHeartbeats 1000000 in
theorem text_put (w : World) (base : Nat) (v : Value) (l : List UInt8) (s : ByteArray) (h : Brow w base v l) (hb : base ≤ w.heap.size) (hl : l.length ≤ 1048576) (hs : s.size ≤ 1048576) :
    Calls Try.prog 18 #[v, .string s] w fun e w' => ∃ v', e = .returned v' ∧ Brow w' base v' (l ++ be 4 s.size ++ sbytes s) ∧ Grew base w w' v v' := by
  have CP := Lib.hid (count_put w base v l s.size h hb hl (by omega))
  have HB := Lib.hid hb
  have HL : Hid ((l ++ be 4 s.size).length + s.size ≤ 4194304) := by
    show (l ++ be 4 s.size).length + s.size ≤ 4194304
    rw [List.length_append, be_length]; omega
  clear h hb hl hs
  go_enter Try.func18, Try.ntmps18
  go_wp2_with (first
    | (go_at_call 17; refine CP.out.mono ?_; rintro e w1 ⟨v1, rfl, r1, g1⟩)
    | (at_builtin; refine wpList_append_text rfl (.tmp 8) (.tmp 9) rfl base _ _ rfl r1 s rfl HL.out (Nat.le_trans HB.out g1.1.size) ?_; intro v2 w2 r2 g2))
  go_ret
  exact ⟨_, rfl, r2, g1.trans g2⟩
end Go.Proofs.Ytgokjdlemfaagaa
