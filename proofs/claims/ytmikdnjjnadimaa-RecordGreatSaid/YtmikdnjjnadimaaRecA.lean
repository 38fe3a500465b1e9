/- Package record's own parts: a number of four bytes written and read, the sum of a length and a body, a copy of bytes. -/
import Derived.Test.YtmikdnjjnadimaaCrcUp
import Derived.Test.YtmikdnjjnadimaaRecI
import Derived.Test.YtmikdnjjnadimaaOwnInts
import Derived.Test.YtmikdnjjnadimaaRefRec
import Derived.Test.YtmikdnjjnadimaaRefFrame
import Derived.Deep.RegionHeld3
namespace Go.Proofs.Ytmikdnjjnadimaa
open Go.RowKit
set_option linter.unusedVariables false
theorem rec_from (W : World) (A : Option Addr) (n c k : Nat) (hk : k ≤ n) (hc : n ≤ c) : (Instr.slice 23 (.slice A n c) (some (.int .i64 (k : Int))) none none).run Try.prog W = .ok (.slice (if c = k then A else A.map (·.add k)) (n - k) (c - k)) W := by
  have he : Try.prog.elem 23 = 5 := by kernel_rfl
  have ht : Try.prog.underlying 23 = some (.slice (Try.prog.elem 23)) := by rw [he]; exact Try.underlying23
  have hz : (sizeOf 5).run Try.prog W = .ok 1 W := by kernel_rfl
  rw [run_slice_l W 23 A n c ht .i64 k (by omega) (by omega), he, hz]
  simp [Result.andThen, sliced]
theorem rec_to (W : World) (A : Option Addr) (n c k : Nat) (hk : k ≤ c) : (Instr.slice 23 (.slice A n c) none (some (.int .i64 (k : Int))) none).run Try.prog W = .ok (.slice A k c) W := by
  have he : Try.prog.elem 23 = 5 := by kernel_rfl
  have ht : Try.prog.underlying 23 = some (.slice (Try.prog.elem 23)) := by rw [he]; exact Try.underlying23
  have hz : (sizeOf 5).run Try.prog W = .ok 1 W := by kernel_rfl
  rw [run_slice_h W 23 A n c ht .i64 k (by omega) (by omega), he, hz]
  cases A <;> simp [Result.andThen, sliced, Addr.add]
theorem rec_part (W : World) (A : Option Addr) (n c j k : Nat) (hj : j ≤ k) (hk : k ≤ c) : (Instr.slice 23 (.slice A n c) (some (.int .i64 (j : Int))) (some (.int .i64 (k : Int))) none).run Try.prog W = .ok (.slice (if c = j then A else A.map (·.add j)) (k - j) (c - j)) W := by
  have he : Try.prog.elem 23 = 5 := by kernel_rfl
  have ht : Try.prog.underlying 23 = some (.slice (Try.prog.elem 23)) := by rw [he]; exact Try.underlying23
  have hz : (sizeOf 5).run Try.prog W = .ok 1 W := by kernel_rfl
  rw [run_slice_lh W 23 A n c ht .i64 .i64 j k (by omega) (by omega) (by omega), he, hz]
  simp [Result.andThen, sliced]
theorem Bs.past {w : World} {B c k : Nat} {A : Option Addr} {l : List UInt8} (h : Bs w B A l) (hc : l.length ≤ c) : Bs w B (if c = k then A else A.map (·.add k)) (l.drop k) := by
  intro i hi
  have hi' : k + i < l.length := by rw [List.length_drop] at hi; omega
  obtain ⟨p, rfl, hb, hv⟩ := h (k + i) hi'
  rw [if_neg (by omega)]
  refine ⟨p.add k, rfl, by rw [add_block]; exact hb, ?_⟩
  rw [add_add, hv]
  simp
theorem num_val32 (a b c d : UInt8) : bits .or .u32 (bits .or .u32 (bits .or .u32 ((a.toNat : Int) * 16777216) ((b.toNat : Int) * 65536)) ((c.toNat : Int) * 256)) (d.toNat : Int) = ((((a.toNat * 256 + b.toNat) * 256 + c.toNat) * 256 + d.toNat : Nat) : Int) := by
  have ha := a.toNat_lt
  have hb := b.toNat_lt
  have hc := c.toNat_lt
  have hd := d.toNat_lt
  generalize a.toNat = a at *
  generalize b.toNat = b at *
  generalize c.toNat = c at *
  generalize d.toNat = d at *
  have e1 : (a : Int) * 16777216 = ((2 ^ 24 * a : Nat) : Int) := by omega
  have e2 : (b : Int) * 65536 = ((b * 65536 : Nat) : Int) := by omega
  have e3 : (c : Int) * 256 = ((c * 256 : Nat) : Int) := by omega
  rw [e1, e2, e3, u32_or_nat _ _ (by omega) (by omega), ← Nat.two_pow_add_eq_or_of_lt (by omega) a]
  have f1 : 2 ^ 24 * a + b * 65536 = 2 ^ 16 * (a * 256 + b) := by omega
  rw [f1, u32_or_nat _ _ (by omega) (by omega), ← Nat.two_pow_add_eq_or_of_lt (by omega)]
  have f2 : 2 ^ 16 * (a * 256 + b) + c * 256 = 2 ^ 8 * ((a * 256 + b) * 256 + c) := by omega
  rw [f2, u32_or_nat _ _ (by omega) (by omega), ← Nat.two_pow_add_eq_or_of_lt (by omega)]
  omega
theorem wrap32 (x : Int) (h0 : 0 ≤ x) (h1 : x < 4294967296) : IntKind.u32.wrap x = x := by
  simp [IntKind.wrap, IntKind.bits, IntKind.signed]; omega
set_option maxHeartbeats 4000000 in
theorem recnum_any (A : Option Addr) (n cap B : Nat) (a b c d : UInt8) (r : List UInt8) (w : World) (h : Bs w B A (a :: b :: c :: d :: r)) (hn : 4 ≤ n) :
    Calls Try.prog 19 #[.slice A n cap] w fun e w' => e = .returned (.int .u32 (Rec.num (a :: b :: c :: d :: r) : Int)) ∧ Below w.heap.size w w' := by
  obtain ⟨p, rfl, -, c0⟩ := h 0 (by simp)
  obtain ⟨_, e, -, c1⟩ := h 1 (by simp)
  cases e
  obtain ⟨_, e, -, c2⟩ := h 2 (by simp)
  cases e
  obtain ⟨_, e, -, c3⟩ := h 3 (by simp)
  cases e
  clear h
  rw [show p.add 0 = p by simp [Addr.add]] at c0
  rw [show p.add 1 = ⟨p.block, p.off + 1, none⟩ from rfl] at c1
  rw [show p.add 2 = ⟨p.block, p.off + 2, none⟩ from rfl] at c2
  rw [show p.add 3 = ⟨p.block, p.off + 3, none⟩ from rfl] at c3
  simp only [List.getElem_cons_zero, List.getElem_cons_succ] at c0 c1 c2 c3
  have h0 : (0 : Int) < (n : Int) := by omega
  have h1 : (1 : Int) < (n : Int) := by omega
  have h2 : (2 : Int) < (n : Int) := by omega
  have h3 : (3 : Int) < (n : Int) := by omega
  have HV := Lib.hid (num_val32 a b c d)
  have ba := a.toNat_lt
  have bb := b.toNat_lt
  have bc := c.toNat_lt
  have bd := d.toNat_lt
  have wa := wrap32 (a.toNat : Int) (by omega) (by omega)
  have wb := wrap32 (b.toNat : Int) (by omega) (by omega)
  have wc := wrap32 (c.toNat : Int) (by omega) (by omega)
  have wd := wrap32 (d.toNat : Int) (by omega) (by omega)
  have wa' := wrap32 ((a.toNat : Int) * 16777216) (by omega) (by omega)
  have wb' := wrap32 ((b.toNat : Int) * 65536) (by omega) (by omega)
  have wc' := wrap32 ((c.toNat : Int) * 256) (by omega) (by omega)
  clear ba bb bc bd
  go_enter Try.func19, Try.ntmps19
  go_wp2_with fail
  go_region
  all_goals
    go_wp2_with fail
    go_ret
    exact ⟨congrArg (fun x : Int => Ending.returned (Value.int .u32 x)) HV.out, (Below.refl _ _).drew⟩
theorem checksum_any (A A' : Option Addr) (l b : List UInt8) (n m ca cb B : Nat) (w : World) (UP : UpOk) (SM : SumOk) (hn : l.length = n) (hm : b.length = m) (hl : n ≤ 1048576) (hb : m ≤ 1048576) (h : Bs w B A l) (h' : Bs w B A' b) (hB : B ≤ w.heap.size) :
    Calls Try.prog 16 #[.slice A n ca, .slice A' m cb] w fun e w' => e = .returned (.int .u32 (Rec.sum l b : Int)) ∧ Below w.heap.size w w' := by
  subst hn hm
  have hs : Crc.crc (Crc.crc 0#32 l) b = Crc.crc 0#32 (l ++ b) := (Crc.crc_append _ _ _).symm
  have HS := Lib.hid hs
  have UU := Lib.hid UP
  have SS := Lib.hid SM
  have H' := Lib.hid (h'.up hB)
  clear UP SM hs h'
  go_enter Try.func16, Try.ntmps16
  go_wp2_with fail
  go_at_call 23
  refine (SS.out A l ca B w (by omega) h hB).mono ?_
  rintro e w1 ⟨rfl, hb1⟩
  go_wp2_with fail
  go_at_call 22
  refine (UU.out (Crc.crc 0#32 l) A' b cb _ w1 (by omega) (H'.out.later hb1) (Nat.le_refl _)).mono ?_
  rintro e w2 ⟨rfl, hb2⟩
  rw [HS.out]
  go_wp2_with fail
  go_ret
  exact ⟨rfl, below_then hb1 hb2⟩
theorem wpList_append_be4 {w : World} {ops : Array Oper} {rest : List Oper} {o : Oper} {a : Act} {Q : Exit → Act → World → Prop} (hgd : o.guard = none) (s x : Operand)
    (ho : o.op = .call { callee := .builtin .append, args := #[s, x], argTypes := #[23, 23] })
    (w0 : World) (v : Value) (k : List UInt8) (n : Nat) (C : Array Value) (hC : C = ((Rec.be4 n).map bv).toArray) (hs : a.eval s = v) (W : World) (hW : W = w.alloc (.cells C 5)) (hown : w.ownsRow w0.heap.size 5 1 v k.length (k.map bv)) (hb : Below w0.heap.size w0 w)
    (hx : a.eval x = .slice (some ⟨w.heap.size, 0, none⟩) 4 4) (hk : k.length ≤ 1048576)
    (h : ∀ v' w', w'.ownsRow w0.heap.size 5 1 v' (k ++ Rec.be4 n).length ((k ++ Rec.be4 n).map bv) → Below w0.heap.size w0 w' → wpList Try.prog ops Q rest (a.put o.dst v') w') :
    wpList Try.prog ops Q (o :: rest) a W := by
  subst hW
  have hs0 : w0.heap.size ≤ (w.alloc (.cells C 5)).heap.size := Nat.le_trans hb.size (by simp)
  have own2 := own_keep hown ((Below.refl w.heap.size w).alloc (Nat.le_refl _) (.cells C 5))
  have hlen : (Rec.be4 n).length = 4 := Rec.be4_length n
  have b1 : k.length + (Rec.be4 n).length ≤ 4611686018427387904 := by omega
  have b2 : k.length + (Rec.be4 n).length ≤ 140737488355328 := by omega
  have hbs := Bs.new w C 5 (0, 0) (Rec.be4 n) hC
  have hx2 : a.eval x = .slice (some ⟨w.heap.size, 0, none⟩) (Rec.be4 n).length 4 := by rw [hlen]; exact hx
  refine wpList_append_bytes hgd s x ho w0.heap.size v k.length (k.map bv) hs own2 (w.heap.size + 1) (some ⟨w.heap.size, 0, none⟩) 4 (Rec.be4 n) hx2 (fun e => nomatch e) hbs b1 b2 hs0 fun v' w' h1 h2 _ => h v' w' ?_ ?_
  · rw [List.length_append, List.map_append]
    exact h1
  · exact (hb.alloc hb.size _).grown h2 hs0 fun j hj => (hown.lt j hj).1
set_option maxRecDepth 20000 in
set_option maxHeartbeats 1000000 in
theorem appnum_any (w0 w : World) (v : Value) (k : List UInt8) (n : Nat) (hn : n < 4294967296) (hown : w.ownsRow w0.heap.size 5 1 v k.length (k.map bv)) (hb : Below w0.heap.size w0 w) (hk : k.length ≤ 1048576) :
    Calls Try.prog 15 #[v, .int .u32 (n : Int)] w fun e w' => ∃ v', e = .returned v' ∧ w'.ownsRow w0.heap.size 5 1 v' (k ++ Rec.be4 n).length ((k ++ Rec.be4 n).map bv) ∧ Below w0.heap.size w0 w' := by
  have n0 : (0 : Int) ≤ (n : Int) := by omega
  have n1 : (n : Int) < 4294967296 := by omega
  have HC := Lib.hid (be4_cells n hn)
  have OW := Lib.hid hown
  have BW := Lib.hid hb
  have HK := Lib.hid hk
  have hsz : Hid (w0.heap.size ≤ w.heap.size) := hb.size
  clear hown hb hk hn
  go_enter Try.func15, Try.ntmps15
  go_wp2_with (at_builtin; refine wpList_append_be4 (w := w) rfl (.tmp 5) (.tmp 17) rfl w0 v k n _ HC.out rfl _ rfl OW.out BW.out rfl HK.out ?_; intro v' w' h1 b2)
  have HO := Lib.hid h1
  have HB2 := Lib.hid b2
  clear h1 b2
  go_wp2_with fail
  go_ret
  exact ⟨_, rfl, HO.out, HB2.out⟩
theorem clone_any (A : Option Addr) (p : Addr) (hp : A = some p) (l : List UInt8) (n c B : Nat) (w : World) (hn : l.length = n) (hl : n ≤ 1048576) (h : Bs w B A l) (hB : B ≤ w.heap.size) :
    Calls Try.prog 20 #[.slice A n c] w fun e w' => ∃ v, e = .returned v ∧ IsBytes w' v l ∧ v.oneCell' = true ∧ (∀ k, v.ownBlock = some k → w.heap.size ≤ k ∧ k < w'.heap.size) ∧ Below w.heap.size w w' := by
  subst hn hp
  have HB := Lib.hid (h.up hB)
  have BW1 := Lib.hid ((Below.refl w.heap.size w).alloc (Nat.le_refl _) (.cells #[] 5 (0, 0)))
  have HL : Hid (([] : List UInt8).length + l.length ≤ 140737488355328) := by show ([] : List UInt8).length + l.length ≤ 140737488355328; simp; omega
  clear h
  have hq : ∀ W : World, (binOp .eql 23 (.slice (some p) l.length c) (.slice none 0 0)).run Try.prog W = .ok (.bool false) W := fun W => by kernel_rfl
  go_enter Try.func20, Try.ntmps20
  go_wp2_with (at_builtin; refine wpList_append_own_bytes rfl (.tmp 5) (.tmp 6) rfl w _ [] rfl (own_none w _) BW1.out (some p) c l rfl (fun e => nomatch e) HB.out HL.out ?_; intro v1 w1 own1 bw1)
  have HO := Lib.hid own1
  have HW := Lib.hid bw1
  clear own1 bw1
  go_wp2_with fail
  go_ret
  have ho := HO.out
  rw [List.nil_append] at ho
  obtain ⟨A3, c3, rfl, e3, hA3, hb3⟩ := Bs.of_own ho
  obtain ⟨A4, c4, e4, -, -, h4, -⟩ := own_row ho
  cases e4
  exact ⟨_, rfl, ⟨A3, c3, rfl, hA3, h4, hb3⟩, rfl, ho.lt, HW.out⟩
end Go.Proofs.Ytmikdnjjnadimaa
