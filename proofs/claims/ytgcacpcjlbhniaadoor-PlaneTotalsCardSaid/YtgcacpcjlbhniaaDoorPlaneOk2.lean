/- Package plane keeps what the law PlaneTotals asks of it beside: the sum of points, the points of texts. -/
import Derived.Test.YtgcacpcjlbhniaaDoorPlPar
import Derived.Test.YtgcacpcjlbhniaaDoorAddr
namespace Go.Proofs.YtgcacpcjlbhniaaDoor
open Go.RowKit
set_option linter.unusedVariables false
theorem psum_take {l : List (Int × Int)} {j : Nat} (h : j < l.length) : psum (l.take (j + 1)) = ((psum (l.take j)).1 + l[j].1, (psum (l.take j)).2 + l[j].2) := by
  rw [List.take_succ_eq_append_getElem h, psum_append]
  simp [psum]
theorem small_take {l : List (Int × Int)} (h : Small l) (j : Nat) : Small (l.take j) := fun a ha => h a (List.mem_of_mem_take ha)
theorem psum_in {l : List (Int × Int)} (h : Small l) (hl : l.length ≤ 20) (j : Nat) : In (psum (l.take j)).1 (psum (l.take j)).2 := by
  have a := psum_small _ (small_take h j)
  have b : (l.take j).length ≤ 20 := by rw [List.length_take]; omega
  unfold In
  omega
theorem add_in (m n u v : Int) (w : World) (h : In m n) (h' : In u v) (h2 : In (m + u) (n + v)) : Calls Tryd.prog 10 #[Pv m n, Pv u v] w fun e w' =>
    e = .returned (.tuple #[Pv (m + u) (n + v), .bool true]) ∧ w = w' := by
  have := add_ok m n u v w h h'
  rwa [if_pos h2, decide_eq_true h2] at this
set_option maxHeartbeats 400000 in
theorem sum_ok (A : Option Addr) (l : List (Int × Int)) (c : Nat) (w : World) (hA : A = none → c = 0) (hc : l.length ≤ c) (hl : l.length ≤ 20) (hr : PtRow w A l) (hs : Small l) :
    Calls Tryd.prog 8 #[.slice A l.length c] w fun e w' => e = .returned (.tuple #[Pv (psum l).1 (psum l).2, .bool true]) ∧ Below w.heap.size w w' := by
  have HR := Lib.hid hr
  have HS := Lib.hid hs
  clear hr hs
  have e00 : Value.complex .f64 0 0 = Pv (psum (l.take 0)).1 (psum (l.take 0)).2 := by
    rw [List.take_zero, psum]; unfold Pv; rw [fw00]
  have H0 := Lib.hid e00
  clear e00
  obtain ⟨n, hn⟩ : ∃ n, l.length = n := ⟨_, rfl⟩
  rw [hn] at hc hl ⊢
  go_enter Tryd.func8, Tryd.ntmps8
  go_wp2_with fail
  go_loopw [4, 10] (fun s i wr => ∃ j : Nat, j ≤ n ∧ i = .int .i64 j ∧ s = Pv (psum (l.take j)).1 (psum (l.take j)).2 ∧ Below w.heap.size w wr) (fun _ i _ => n - (intOf i).toNat)
  case atStart => exact ⟨0, Nat.zero_le _, rfl, H0.out, Below.refl _ _⟩
  case round =>
    obtain ⟨j, hj, rfl, hs, hb⟩ := hrel
    by_cases hlt : j < n
    · have hjl : j < l.length := by omega
      obtain ⟨p, rfl, hbk, c0, c1⟩ := HR.out j hjl
      have h1 := psum_in HS.out (by omega) j
      have h2 := psum_in HS.out (by omega) (j + 1)
      have h3 : In l[j].1 l[j].2 := by
        have := HS.out l[j] (List.getElem_mem hjl)
        unfold In; omega
      rw [psum_take hjl] at h2
      have ha := fun W => add_in _ _ _ _ W h1 h3 h2
      have d0 : wr.cell? (p.add (j * 2)) = some (.string ⟨#[]⟩) := by rw [hb.cell (by rw [add_block]; exact hbk), c0]
      have d1 : wr.cell? ((p.add (j * 2)).add 1) = some (Pv l[j].1 l[j].2) := by rw [hb.cell (by rw [add_block, add_block]; exact hbk), c1]
      rw [← hs] at ha
      obtain ⟨X, X', hX⟩ : ∃ X X', Pv l[j].1 l[j].2 = .complex .f64 X X' := ⟨_, _, rfl⟩
      obtain ⟨Y, hY⟩ : ∃ Y, Pv ((psum (l.take j)).1 + l[j].1) ((psum (l.take j)).2 + l[j].2) = Y := ⟨_, rfl⟩
      rw [hX] at d1
      obtain ⟨q, hq⟩ : ∃ q, p.add (j * 2) = q := ⟨_, rfl⟩
      rw [hq] at d0 d1
      simp only [Addr.add_succ', Nat.zero_add] at d1
      simp only [hX, hY] at ha
      have HS := Lib.hid hs
      have HX := Lib.hid hX
      have HY := Lib.hid hY
      have hst : ∀ (a : Addr) (W : World), (store a (.complex .f64 X X')).run Tryd.prog W = stored Tryd.prog W a (.complex .f64 X X') .plain := fun a W => run_store _ W a _ _ rfl
      clear hs hX hY h1 h2 h3 c0 c1
      go_wp2_with (go_at_call 10; refine (ha _).mono ?_; rintro e w' ⟨rfl, rfl⟩)
      refine ⟨⟨j + 1, by omega, by go_num, by rw [psum_take hjl]; exact HY.out.symm, hb.alloc hb.size _⟩, ?_⟩
      simp [intOf]; omega
    · have e : j = n := by omega
      subst e
      go_wp2_with fail
      go_ret2
      have hs' : u4 = Pv (psum l).1 (psum l).2 := by rw [hs, ← hn, List.take_length]
      exact ⟨congrArg (fun v => Ending.returned (.tuple #[v, .bool true])) hs', hb⟩
theorem plane_ok2 : PlaneOk2 where
  parse m n w h := (parse_ok m n w h).mono fun e w' x => ⟨x.1, below_of_eq (a := w) x.2⟩
  sum A l c w hA hc hl hr hs := (sum_ok A l c w hA hc hl hr hs).mono fun e w' x => ⟨x.1, x.2⟩
end Go.Proofs.YtgcacpcjlbhniaaDoor
