/- The laws' own points: whole numbers of a bounded size. -/
import Derived.Test.YtgcacpcjlbhniaaPlaneT
namespace Go.Proofs.Ytgcacpcjlbhniaa
open Go.RowKit
theorem tmod_in (x : Int) : (x.tmod 1048577).natAbs ≤ 1048576 := by
  have h1 : x.tmod 1048577 < 1048577 := Int.tmod_lt_of_pos x (by omega)
  have h2 : -1048577 < x.tmod 1048577 := Int.lt_tmod_of_pos x (by omega)
  omega
theorem whole_any (x y : Int) (w : World) :
    Calls Try.prog 5 #[.int .i64 x, .int .i64 y] w fun e w' => e = .returned (Pv (x.tmod 1048577) (y.tmod 1048577)) ∧ w = w' := by
  go_enter Try.func5, Try.ntmps5
  go_wp2_with fail
  go_ret
  refine ⟨?_, rfl⟩
  rw [Fl.ofInt_fw, Fl.ofInt_fw]
  rfl
end Go.Proofs.Ytgcacpcjlbhniaa
