/- The contracts of the document's own frames (scriptoriumref3: four, number, Frame, Scan). -/
import Derived.Test.YtmikdnjjnadimaaRefCrc
import Derived.Test.YtmikdnjjnadimaaRecM
import Derived.Test.YtmikdnjjnadimaaConv
import Derived.Deep.RegionHeld3
namespace Go.Proofs.Ytmikdnjjnadimaa
open Go.RowKit
set_option linter.unusedVariables false
theorem be4_cells (n : Nat) (hn : n < 4294967296) : #[Value.int .u8 ((n : Int) / 16777216), .int .u8 ((n : Int) / 65536 % 256), .int .u8 ((n : Int) / 256 % 256), .int .u8 ((n : Int) % 256)] = ((Rec.be4 n).map bv).toArray := by
  have h : ∀ m : Nat, ((UInt8.ofNat m).toNat : Int) = (m : Int) % 256 := fun m => by
    rw [UInt8.toNat_ofNat']; omega
  have e : (n : Int) / 16777216 = (n : Int) / 16777216 % 256 := by omega
  simp only [Rec.be4, List.map_cons, List.map_nil, bv, h]
  rw [e]
  congr 4
theorem four_any (n : Nat) (hn : n < 4294967296) (w : World) :
    Calls Try.prog 17 #[.int .u32 (n : Int)] w fun e w' => e = .returned (.string ⟨(Rec.be4 n).toArray⟩) ∧ Below w.heap.size w w' := by
  have n0 : (0 : Int) ≤ (n : Int) := by omega
  have n1 : (n : Int) < 4294967296 := by omega
  have cv : ∀ C : Array Value, C = ((Rec.be4 n).map bv).toArray → (convert 23 9 (.slice (some ⟨w.heap.size, 0, none⟩) 4 4)).run Try.prog (w.alloc (.cells C 5)) = .ok (.string ⟨(Rec.be4 n).toArray⟩) (w.alloc (.cells C 5)) := fun C hC =>
    convert_n 4 4 (Rec.be4_length n) (Bs.new w C 5 _ (Rec.be4 n) hC)
  go_enter Try.func17, Try.ntmps17
  go_wp2_with fail
  rw [cv _ (be4_cells n hn)]
  go_wp2_with fail
  go_ret
  exact ⟨rfl, (Below.refl _ w).alloc (Nat.le_refl _) _⟩
theorem or_nat (x y : Nat) (hx : x < 4294967296) (hy : y < 4294967296) : bits .or .i64 (x : Int) (y : Int) = ((x ||| y : Nat) : Int) := by
  have hlt : x ||| y < 2 ^ 32 := Nat.or_lt_two_pow (by omega) (by omega)
  show IntKind.i64.wrap ((BitVec.ofInt 64 (x : Int) ||| BitVec.ofInt 64 (y : Int)).toNat : Int) = _
  rw [BitVec.ofInt_natCast, BitVec.ofInt_natCast, BitVec.toNat_or, BitVec.toNat_ofNat, BitVec.toNat_ofNat, Nat.mod_eq_of_lt (by omega), Nat.mod_eq_of_lt (by omega)]
  generalize x ||| y = z at *
  simp [IntKind.wrap, IntKind.bits, IntKind.signed]
  omega
theorem wrap_small (x : Int) (h0 : 0 ≤ x) (h1 : x < 9223372036854775808) : IntKind.i64.wrap x = x := by
  simp [IntKind.wrap, IntKind.bits, IntKind.signed]; omega
theorem num_val (a b c d : UInt8) : bits .or .i64 (bits .or .i64 (bits .or .i64 ((a.toNat : Int) * 16777216) ((b.toNat : Int) * 65536)) ((c.toNat : Int) * 256)) (d.toNat : Int) = ((((a.toNat * 256 + b.toNat) * 256 + c.toNat) * 256 + d.toNat : Nat) : Int) := by
  have ha := a.toNat_lt
  have hb := b.toNat_lt
  have hc := c.toNat_lt
  have hd := d.toNat_lt
  generalize a.toNat = a at *
  generalize b.toNat = b at *
  generalize c.toNat = c at *
  generalize d.toNat = d at *
  have e1 : (a : Int) * 16777216 = ((2 ^ 24 * a : Nat) : Int) := by omega
  have e2 : (b : Int) * 65536 = ((b * 65536 : Nat) : Int) := by omega
  have e3 : (c : Int) * 256 = ((c * 256 : Nat) : Int) := by omega
  rw [e1, e2, e3, or_nat _ _ (by omega) (by omega), ← Nat.two_pow_add_eq_or_of_lt (by omega) a]
  have f1 : 2 ^ 24 * a + b * 65536 = 2 ^ 16 * (a * 256 + b) := by omega
  rw [f1, or_nat _ _ (by omega) (by omega), ← Nat.two_pow_add_eq_or_of_lt (by omega)]
  have f2 : 2 ^ 16 * (a * 256 + b) + c * 256 = 2 ^ 8 * ((a * 256 + b) * 256 + c) := by omega
  rw [f2, or_nat _ _ (by omega) (by omega), ← Nat.two_pow_add_eq_or_of_lt (by omega)]
  omega
set_option maxHeartbeats 4000000 in
theorem number_any (s : ByteArray) (a b c d : UInt8) (r : List UInt8) (hs : s.data.toList = a :: b :: c :: d :: r) (w : World) :
    Calls Try.prog 21 #[.string s] w fun e w' => e = .returned (.int .i64 (Rec.num s.data.toList : Int)) ∧ Below w.heap.size w w' := by
  have hz : s.size = r.length + 4 := by
    have := congrArg List.length hs
    simpa using this
  have h0 : (0 : Int) < (s.size : Int) := by omega
  have h1 : (1 : Int) < (s.size : Int) := by omega
  have h2 : (2 : Int) < (s.size : Int) := by omega
  have h3 : (3 : Int) < (s.size : Int) := by omega
  have hg : ∀ (i : Nat) (h : i < s.size) (y : UInt8), s.data.toList[i]? = some y → s[i] = y := fun i h y e => by
    have h' : i < s.data.toList.length := by simpa using h
    rw [List.getElem?_eq_getElem h', Option.some.injEq] at e
    rw [← e]
    rfl
  have g0 := hg 0 (by omega) a (by rw [hs]; rfl)
  have g1 := hg 1 (by omega) b (by rw [hs]; rfl)
  have g2 := hg 2 (by omega) c (by rw [hs]; rfl)
  have g3 := hg 3 (by omega) d (by rw [hs]; rfl)
  have HV := Lib.hid (num_val a b c d)
  have HS := Lib.hid hs
  have ba := a.toNat_lt
  have bb := b.toNat_lt
  have bc := c.toNat_lt
  have bd := d.toNat_lt
  have wa := wrap_small (a.toNat : Int) (by omega) (by omega)
  have wb := wrap_small (b.toNat : Int) (by omega) (by omega)
  have wc := wrap_small (c.toNat : Int) (by omega) (by omega)
  have wd := wrap_small (d.toNat : Int) (by omega) (by omega)
  have wa' := wrap_small ((a.toNat : Int) * 16777216) (by omega) (by omega)
  have wb' := wrap_small ((b.toNat : Int) * 65536) (by omega) (by omega)
  have wc' := wrap_small ((c.toNat : Int) * 256) (by omega) (by omega)
  clear hg hs ba bb bc bd
  go_enter Try.func21, Try.ntmps21
  go_wp2_with fail
  go_region_held3 (fun w' => Below w.heap.size w w') (first | exact (Below.refl _ _).drew | assumption) (fail)
  all_goals
    go_wp2_with fail
    go_ret
    exact ⟨congrArg (fun x : Int => Ending.returned (Value.int .i64 x)) (HV.out.trans (by rw [HS.out]; rfl)), by assumption⟩
end Go.Proofs.Ytmikdnjjnadimaa
