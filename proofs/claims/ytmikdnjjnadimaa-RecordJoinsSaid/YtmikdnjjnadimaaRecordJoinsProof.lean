/- RecordJoins of scriptoriumlaw4 returns true for any two lists of texts and any bool, and its arguments read afterwards as they read before: frames of two texts, one behind the other, are both's frames if the first one's are whole, and what is behind a broken one is not seen. Conditions: none beyond the statement's own (the law lets go of lists and texts beyond its bounds). -/
import Derived.Test.YtmikdnjjnadimaaRecJoins
import Derived.Test.YtmikdnjjnadimaaRecOk
import Derived.Test.YtmikdnjjnadimaaLift
import Derived.Test.YtmikdnjjnadimaaSlices
namespace Go.Proofs.Ytmikdnjjnadimaa.recordJoins
open Go.ChangeShapes Go.WideShapes Go.ChangeAt Go.RowKit Go.ChangeMaps
set_option linter.unusedVariables false

set_option maxRecDepth 100000 in
theorem lifted (os : Os) (started : os.Started) (H : Type) (enc : TypeId × Value → H) :
    ReturnsInHanded {} Try.checked os 7 .any (Rows.recordJoinsSpec.pre6 enc Try.prog Try.f7 Rows.recordJoinsRow.domain false) (Rows.recordJoinsSpec.post enc Try.prog Try.f7 false true false false) := by
  refine returnsInHanded_of_change (C := Try.checked) own started (by kernel_rfl) Try.func7
    (ChangeSpec.witness6 (enc := enc) (C := Try.checked) false ⟨#[], #[.slice none 0 0, .slice none 0 0, .bool false], []⟩ 8 (by kernel_rfl) (by kernel_rfl) (by kernel_rfl) (by kernel_rfl)) ?_
  intro W base args ds gs before hval0 hW hcnd _
  have hval : ∀ (j : Nat) t v, Try.f7.params[j]? = some t → args[j]? = some v → Value.okWide Try.prog W .any base t v := hval0
  have hW' := hW
  obtain ⟨p, q, hA0, hV, rfl, hfz, hnd⟩ := hW
  have hA : DataW.TrodAll enc Try.prog W 0 (fun _ => true) true Try.f7.params.toList args.toList ds p := hA0
  rw [Try.params7] at hA hval
  obtain ⟨v0, vs0, d0, ds0, p0, q0, hargs, rfl, rfl, h0, r0⟩ := trodAll_cons hA
  obtain ⟨v1, vs1, d1, ds1, p1, q1, rfl, rfl, rfl, h1, r1⟩ := trodAll_cons r0
  obtain ⟨v2, vs2, d2, ds2, p2, q2, rfl, rfl, rfl, h2, r2⟩ := trodAll_cons r1
  obtain ⟨rfl, rfl, rfl⟩ := trodAll_nil r2
  obtain rfl : args = #[v0, v1, v2] := by cases args; simp_all
  obtain ⟨rfl, rfl⟩ := trodVars_none hV
  have k0 := h0
  have y0 : ∀ x ∈ p0, x.block < W.heap.size := fun x hx => by simpa using hW'.lt x (by simp [hx])
  have k1 := h1
  have y1 : ∀ x ∈ p1, x.block < W.heap.size := fun x hx => by simpa using hW'.lt x (by simp [hx])
  have k2 := h2
  have y2 : ∀ x ∈ p2, x.block < W.heap.size := fun x hx => by simpa using hW'.lt x (by simp [hx])
  obtain ⟨A0, l0, c0, rfl, n0, le0, m0, b0, s0⟩ := open_texts (hval 0 22 v0 rfl rfl) h0
  obtain ⟨A1, l1, c1, rfl, n1, le1, m1, b1, s1⟩ := open_texts (hval 1 22 v1 rfl rfl) h1
  obtain ⟨a2, rfl, e2, z2⟩ := open_bool Try.underlying4 (hval 2 4 v2 rfl rfl) h2
  clear hA0 hval0 hA
  simp only [List.append_nil] at hW'
  have fin : ∀ W' : World, Below W.heap.size W W' → Rows.recordJoinsSpec.post enc Try.prog Try.f7 false true false false W #[.slice A0 l0.length c0, .slice A1 l1.length c1, .bool a2] (.bool true) W' := fun W' hb => by
    have t : DataW.TrodAll enc Try.prog W' 0 (fun b => decide (b < W.heap.size)) true Try.f7.params.toList [.slice A0 l0.length c0, .slice A1 l1.length c1, .bool a2] [d0, d1, d2] (p0 ++ (p1 ++ (p2))) := by
      rw [Try.params7]
      simpa only [List.append_nil] using (trodAll_cons_mk (Below.trod laidOut (by kernel_rfl) (of_decide_eq_true (by kernel_rfl)) k0 hb y0) (trodAll_cons_mk (Below.trod laidOut (by kernel_rfl) (of_decide_eq_true (by kernel_rfl)) k1 hb y1) (trodAll_cons_mk (Below.trod laidOut (by kernel_rfl) (of_decide_eq_true (by kernel_rfl)) k2 hb y2) trodAll_mk0)))
    exact post_below (ds := [d0, d1, d2]) (gs := []) (pa := p0 ++ (p1 ++ (p2))) hW' (trodAll_cons_mk (shut_bool Try.underlying4 _) trodAll_mk0) t rfl hb
  refine (joins_walk rec_ok A0 A1 l0 l1 l0.length l1.length c0 c1 rfl rfl a2 n0 n1 W b0 b1).mono fun e W' ⟨he, hb⟩ => ?_
  subst he
  exact ⟨_, rfl, fin W' hb⟩

theorem over : Rows.recordJoinsRow.holds Try.pinned (OpenSpec.ofChange Rows.recordJoinsSpec) :=
  OpenClaim.holds_of_wide 7 Try.f7 rfl rfl rfl rfl rfl rfl rfl ⟨rfl, rfl, rfl, rfl, rfl⟩ rfl rfl rfl rfl rfl (by kernel_rfl) Try.func7 (by kernel_rfl)
    (of_decide_eq_true (by kernel_rfl)) (by unfold Func.isWrapper; first | (rw [if_pos (by decide +kernel)]; kernel_rfl) | (rw [if_neg (by decide +kernel)]; exact ⟨rfl, rfl⟩))
    (fun os started H enc _ => lifted os started H enc)

theorem proved : Rows.RecordJoinsSaid := over
#print axioms proved
end Go.Proofs.Ytmikdnjjnadimaa.recordJoins
