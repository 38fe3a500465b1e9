/- ScopeOuter of scriptoriumlaw17 returns true for any text, and its argument reads afterwards as it read before: what functions take from around is what the document says. Conditions: none beyond the statement's own. -/
import Derived.Test.YteakhlnnepjhpaaSdJx
import Derived.Test.YteakhlnnepjhpaaLiftBx
namespace Go.Proofs.Yteakhlnnepjhpaa.scopeOuter
open Go.ChangeShapes Go.WideShapes Go.ChangeAt Go.RowKit Go.ChangeMaps
set_option linter.unusedVariables false

set_option maxRecDepth 100000 in
theorem lifted (os : Os) (started : os.Started) (H : Type) (enc : TypeId × Value → H) :
  ReturnsInHanded {} Try.checked os 4 .any (Rows.scopeOuterSpec.pre6 enc Try.prog Try.f4 Rows.scopeOuterRow.domain false) (Rows.scopeOuterSpec.post enc Try.prog Try.f4 false true false false) := by
 refine returnsInHanded_of_change (C := Try.checked) own started (by kernel_rfl) Try.func4
  (ChangeSpec.witness6 (enc := enc) (C := Try.checked) false ⟨#[], #[.string ⟨#[]⟩], []⟩ 8 (by kernel_rfl) (by kernel_rfl) (by kernel_rfl) (by kernel_rfl)) ?_
 intro W base args ds gs before hval0 hW hcnd _
 have hval : ∀ (j : Nat) t v, Try.f4.params[j]? = some t → args[j]? = some v → Value.okWide Try.prog W .any base t v := hval0
 have hW' := hW
 obtain ⟨p, q, hA0, hV, rfl, hfz, hnd⟩ := hW
 have hA : DataW.TrodAll enc Try.prog W 0 (fun _ => true) true Try.f4.params.toList args.toList ds p := hA0
 rw [Try.params4] at hA hval
 obtain ⟨v0, vs0, d0, ds0, p0, q0, hargs, rfl, rfl, h0, r0⟩ := trodAll_cons hA
 obtain ⟨rfl, rfl, rfl⟩ := trodAll_nil r0
 obtain rfl : args = #[v0] := by cases args; simp_all
 obtain ⟨rfl, rfl⟩ := trodVars_none hV
 have k0 := h0
 have y0 : ∀ x ∈ p0, x.block < W.heap.size := fun x hx => by simpa using hW'.lt x (by simp [hx])
 obtain ⟨a0, rfl, e0, z0, w0⟩ := open_string Try.underlying9 (hval 0 9 v0 rfl rfl) h0
 clear hA0 hval0 hA
 simp only [List.append_nil] at hW'
 have fin : ∀ W' : World, Below W.heap.size W W' → Rows.scopeOuterSpec.post enc Try.prog Try.f4 false true false false W #[.string a0] (.bool true) W' := fun W' hb => by
  have t : DataW.TrodAll enc Try.prog W' 0 (fun b => decide (b < W.heap.size)) true Try.f4.params.toList [.string a0] [d0] (p0) := by
   rw [Try.params4]
   simpa only [List.append_nil] using (trodAll_cons_mk (Below.trod laidOut (by kernel_rfl) (of_decide_eq_true (by kernel_rfl)) k0 hb y0) trodAll_mk0)
  exact post_below (ds := [d0]) (gs := []) (pa := p0) hW' (trodAll_cons_mk (shut_bool Try.underlying4 _) trodAll_mk0) t rfl hb
 refine (outer_walk W a0).mono fun e W' ⟨he, hb⟩ => ?_
 subst he
 exact ⟨_, rfl, fin W' hb⟩

theorem over : Rows.scopeOuterRow.holds Try.pinned (OpenSpec.ofChange Rows.scopeOuterSpec) :=
 OpenClaim.holds_of_wide 4 Try.f4 rfl rfl rfl rfl rfl rfl rfl ⟨rfl, rfl, rfl, rfl, rfl⟩ rfl rfl rfl rfl rfl (by kernel_rfl) Try.func4 (by kernel_rfl)
  (of_decide_eq_true (by kernel_rfl)) (by unfold Func.isWrapper; first | (rw [if_pos (by decide +kernel)]; kernel_rfl) | (rw [if_neg (by decide +kernel)]; exact ⟨rfl, rfl⟩))
  (fun os started H enc _ => lifted os started H enc)

theorem proved : Rows.ScopeOuterSaid := over
#print axioms proved
end Go.Proofs.Yteakhlnnepjhpaa.scopeOuter
