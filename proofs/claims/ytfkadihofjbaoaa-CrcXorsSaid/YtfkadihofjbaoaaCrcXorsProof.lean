/- Proved: the law CrcXors returns true for any three byte slices that the row's domain allows: the landed crc.Sum of the exclusive or of three texts of one length is the exclusive or of their sums; no argument is changed. Conditions: those of the row (the arguments are well formed values of their types in a world that was handed in); nothing else is assumed. -/
import Derived.Test.YtfkadihofjbaoaaXors
import Derived.Test.YtfkadihofjbaoaaLift
namespace Go.Proofs.Ytfkadihofjbaoaa.crcXors
open Go.ChangeShapes Go.WideShapes Go.ChangeAt Go.RowKit Go.ChangeMaps
set_option linter.unusedVariables false

set_option maxRecDepth 100000 in
theorem lifted (os : Os) (started : os.Started) (H : Type) (enc : TypeId × Value → H) :
    ReturnsInHanded {} Try.checked os 5 .any (Rows.crcXorsSpec.pre6 enc Try.prog Try.f5 Rows.crcXorsRow.domain false) (Rows.crcXorsSpec.post enc Try.prog Try.f5 false true false false) := by
  refine returnsInHanded_of_change (C := Try.checked) own started (by kernel_rfl) Try.func5
    (ChangeSpec.witness6 (enc := enc) (C := Try.checked) false ⟨#[], #[.slice none 0 0, .slice none 0 0, .slice none 0 0], []⟩ 8 (by kernel_rfl) (by kernel_rfl) (by kernel_rfl) (by kernel_rfl)) ?_
  intro W base args ds gs before hval0 hW hcnd _
  have hval : ∀ (j : Nat) t v, Try.f5.params[j]? = some t → args[j]? = some v → Value.okWide Try.prog W .any base t v := hval0
  have hW' := hW
  obtain ⟨p, q, hA0, hV, rfl, hfz, hnd⟩ := hW
  have hA : DataW.TrodAll enc Try.prog W 0 (fun _ => true) true Try.f5.params.toList args.toList ds p := hA0
  rw [Try.params5] at hA hval
  obtain ⟨v0, vs0, d0, ds0, p0, q0, hargs, rfl, rfl, h0, r0⟩ := trodAll_cons hA
  obtain ⟨v1, vs1, d1, ds1, p1, q1, rfl, rfl, rfl, h1, r1⟩ := trodAll_cons r0
  obtain ⟨v2, vs2, d2, ds2, p2, q2, rfl, rfl, rfl, h2, r2⟩ := trodAll_cons r1
  obtain ⟨rfl, rfl, rfl⟩ := trodAll_nil r2
  obtain rfl : args = #[v0, v1, v2] := by cases args; simp_all
  obtain ⟨rfl, rfl⟩ := trodVars_none hV
  have k0 := h0
  have y0 : ∀ x ∈ p0, x.block < W.heap.size := fun x hx => by simpa using hW'.lt x (by simp [hx])
  have k1 := h1
  have y1 : ∀ x ∈ p1, x.block < W.heap.size := fun x hx => by simpa using hW'.lt x (by simp [hx])
  have k2 := h2
  have y2 : ∀ x ∈ p2, x.block < W.heap.size := fun x hx => by simpa using hW'.lt x (by simp [hx])
  obtain ⟨A0, l0, c0, rfl, n0, le0, m0, b0⟩ := open_bytes (hval 0 23 v0 rfl rfl) h0
  obtain ⟨A1, l1, c1, rfl, n1, le1, m1, b1⟩ := open_bytes (hval 1 23 v1 rfl rfl) h1
  obtain ⟨A2, l2, c2, rfl, n2, le2, m2, b2⟩ := open_bytes (hval 2 23 v2 rfl rfl) h2
  clear hA0 hval0 hA
  simp only [List.append_nil] at hW'
  have fin : ∀ W' : World, Below W.heap.size W W' → Rows.crcXorsSpec.post enc Try.prog Try.f5 false true false false W #[.slice A0 l0.length c0, .slice A1 l1.length c1, .slice A2 l2.length c2] (.bool true) W' := fun W' hb => by
    have t : DataW.TrodAll enc Try.prog W' 0 (fun b => decide (b < W.heap.size)) true Try.f5.params.toList [.slice A0 l0.length c0, .slice A1 l1.length c1, .slice A2 l2.length c2] [d0, d1, d2] (p0 ++ (p1 ++ (p2))) := by
      rw [Try.params5]
      simpa only [List.append_nil] using (trodAll_cons_mk (Below.trod laidOut (by kernel_rfl) (of_decide_eq_true (by kernel_rfl)) k0 hb y0) (trodAll_cons_mk (Below.trod laidOut (by kernel_rfl) (of_decide_eq_true (by kernel_rfl)) k1 hb y1) (trodAll_cons_mk (Below.trod laidOut (by kernel_rfl) (of_decide_eq_true (by kernel_rfl)) k2 hb y2) trodAll_mk0)))
    exact post_below (ds := [d0, d1, d2]) (gs := []) (pa := p0 ++ (p1 ++ (p2))) hW' (trodAll_cons_mk (shut_bool Try.underlying4 _) trodAll_mk0) t rfl hb
  refine (xors_any sum_ok A0 A1 A2 l0 l1 l2 c0 c1 c2 W b0 b1 b2 (Nat.le_trans le0 m0) (Nat.le_trans le1 m1) (Nat.le_trans le2 m2) le0 le1 le2 _ rfl).mono fun e W' ⟨he, hb⟩ => ?_
  subst he
  exact ⟨_, rfl, fin W' hb⟩

theorem over : Rows.crcXorsRow.holds Try.pinned (OpenSpec.ofChange Rows.crcXorsSpec) :=
  OpenClaim.holds_of_wide 5 Try.f5 rfl rfl rfl rfl rfl rfl rfl ⟨rfl, rfl, rfl, rfl, rfl⟩ rfl rfl rfl rfl rfl (by kernel_rfl) Try.func5 (by kernel_rfl)
    (of_decide_eq_true (by kernel_rfl)) (by unfold Func.isWrapper; first | (rw [if_pos (by decide +kernel)]; kernel_rfl) | (rw [if_neg (by decide +kernel)]; exact ⟨rfl, rfl⟩))
    (fun os started H enc _ => lifted os started H enc)

theorem proved : Rows.CrcXorsSaid := over
#print axioms proved
end Go.Proofs.Ytfkadihofjbaoaa.crcXors
