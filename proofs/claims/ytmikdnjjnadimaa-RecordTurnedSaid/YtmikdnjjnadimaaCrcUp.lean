/- What is asked of crc.Update and crc.Sum by those who call them: CRC-32's sum of any bytes, going on from any sum; memory that was there stays. -/
import Derived.Test.YtmikdnjjnadimaaRefCrc
namespace Go.Proofs.Ytmikdnjjnadimaa
open Go.RowKit
set_option linter.unusedVariables false

/-- What is asked of crc.Update. -/
def UpOk : Prop := ∀ (c : BitVec 32) (A : Option Addr) (l : List UInt8) (cap B : Nat) (w : World), l.length ≤ 2097152 → Bs w B A l → B ≤ w.heap.size →
  Calls Try.prog 22 #[.int .u32 (c.toNat : Int), .slice A l.length cap] w fun e w' => e = .returned (.int .u32 ((Crc.crc c l).toNat : Int)) ∧ Below w.heap.size w w'
/-- What is asked of crc.Sum. -/
def SumOk : Prop := ∀ (A : Option Addr) (l : List UInt8) (cap B : Nat) (w : World), l.length ≤ 2097152 → Bs w B A l → B ≤ w.heap.size →
  Calls Try.prog 23 #[.slice A l.length cap] w fun e w' => e = .returned (.int .u32 ((Crc.crc 0#32 l).toNat : Int)) ∧ Below w.heap.size w w'

end Go.Proofs.Ytmikdnjjnadimaa
