/- A set and the document's list side by side. -/
import Derived.Test.YtopnbfhkfagemaaDoorSkRefP
import Derived.Test.YtopnbfhkfagemaaDoorSkOps
namespace Go.Proofs.YtopnbfhkfagemaaDoor
open Go.RowKit
set_option linter.unusedVariables false
/-- The set has l, the list v reads as m and lies beside the set. -/
def Duo (w0 w : World) (p : Addr) (l : List SkM.E) (v : Value) (m : List SkM.E) : Prop :=
  (∃ G, SkRel w G p l ∧ (∀ k, G k → w0.heap.size ≤ k) ∧ ∀ a n c, v = .slice (some a) n c → ¬ G a.block ∧ a.block < w.heap.size) ∧ SList w v m ∧ Below w0.heap.size w0 w ∧ Tz w0
section
variable {w0 w : World} {p : Addr} {l m : List SkM.E} {v : Value}
theorem Duo.sst (h : Duo w0 w p l v m) : SSt w0 w p l := by
  obtain ⟨⟨G, hr, hg, -⟩, -, hb, tz⟩ := h
  exact ⟨⟨G, hr, hg⟩, hb, tz⟩
theorem Duo.row (h : Duo w0 w p l v m) : SList w v m := h.2.1
theorem SSt.duo (h : SSt w0 w p l) : Duo w0 w p l (.slice none 0 0) [] := by
  obtain ⟨⟨G, hr, hg⟩, hb, tz⟩ := h
  exact ⟨⟨G, hr, hg, fun a n c e => (nomatch e)⟩, sl_none w [] rfl, hb, tz⟩
theorem Duo.keep (h : Duo w0 w p l v m) {w' : World} (hb : Below w.heap.size w w') : Duo w0 w' p l v m := by
  obtain ⟨⟨G, hr, hg, hv⟩, sl, hb0, tz⟩ := h
  exact ⟨⟨G, hr.below hb, hg, fun a n c e => ⟨(hv a n c e).1, Nat.lt_of_lt_of_le (hv a n c e).2 hb.size⟩⟩, sl.keep hb, below_then hb0 hb, tz⟩
theorem Duo.fresh (h : Duo w0 w p l v m) {w' : World} (hb : Below w.heap.size w w') {v' : Value} {m' : List SkM.E} (sl : SList w' v' m') (hn : InNew w w' v') : Duo w0 w' p l v' m' := by
  obtain ⟨⟨G, hr, hg, hv⟩, -, hb0, tz⟩ := h
  refine ⟨⟨_, hr.tight.below hb, fun k hk => hg k hk.1, fun a n c e => ⟨fun k => ?_, (hn a n c e).2⟩⟩, sl, below_then hb0 hb, tz⟩
  have := (hn a n c e).1
  have := k.2
  omega
theorem Duo.other (h : Duo w0 w p l v m) {w' : World} (hb : Below w.heap.size w w') {m' : List SkM.E} (sl : SList w' v m') : Duo w0 w' p l v m' := by
  have k := h.keep hb
  exact ⟨k.1, sl, k.2.2⟩
theorem duo_put {G : Nat → Prop} (hg : ∀ k, G k → w0.heap.size ≤ k) (hv : ∀ a n c, v = .slice (some a) n c → ¬ G a.block ∧ a.block < w.heap.size) (sl : SList w v m) (hb0 : Below w0.heap.size w0 w) (tz : Tz w0) {w' : World} {l' : List SkM.E} (d : Put w G p l' w') : Duo w0 w' p l' v m := by
  obtain ⟨⟨G', hr', hg'⟩, ho⟩ := d
  refine ⟨⟨G', hr', fun k hk => ?_, fun a n c e => ⟨fun k => ?_, Nat.lt_of_lt_of_le (hv a n c e).2 ho.size⟩⟩, ?_, hb0.trans (ho.below hg hb0.size), tz⟩
  · rcases hg' k hk with x | x
    · exact hg k x
    · exact Nat.le_trans hb0.size x
  · rcases hg' _ k with x | x
    · exact (hv a n c e).1 x
    · have := (hv a n c e).2; omega
  · cases v with
    | slice A n c =>
      cases A with
      | none =>
        obtain ⟨A, c', e, hA, hc, hrw⟩ := sl
        injection e with e1 e2 e3
        subst e1; subst e2; subst e3
        have e0 : m = [] := by
          cases m with
          | nil => rfl
          | cons y r => obtain ⟨p, e, _⟩ := hrw 0 (by simp); cases e
        subst e0
        exact ⟨none, c, rfl, hA, hc, fun i hi => absurd hi (Nat.not_lt_zero _)⟩
      | some a => exact sl.same (ho.block _ (hv a n c rfl).2 (hv a n c rfl).1) ho.size
    | _ => obtain ⟨A, c', e, _⟩ := sl; cases e
theorem Duo.set_put (h : Duo w0 w p l v m) (s : ByteArray) (hs : s.size ≤ lim) (x : Int) (hl : l.length ≤ 999) :
    Calls Tryd.prog 10 #[.pointer (some p), .string s, .int .i64 x] w fun e w' => e = .returned (.bool (SkM.get l s.data.toList).isNone) ∧ Duo w0 w' p (SkM.put l s.data.toList x) v m := by
  obtain ⟨⟨G, hr, hg, hv⟩, sl, hb0, tz⟩ := h
  refine (put_any hr (tz.below hb0) (fun g => by have := hg _ g; have := tz.lt; omega) hs x hl).mono ?_
  rintro e w' ⟨he, hp⟩
  exact ⟨he, duo_put hg hv sl hb0 tz hp⟩
theorem Duo.set_del (h : Duo w0 w p l v m) (s : ByteArray) (hs : s.size ≤ lim) :
    Calls Tryd.prog 12 #[.pointer (some p), .string s] w fun e w' => e = .returned (.bool (SkM.get l s.data.toList).isSome) ∧ Duo w0 w' p (SkM.del l s.data.toList) v m := by
  obtain ⟨⟨G, hr, hg, hv⟩, sl, hb0, tz⟩ := h
  refine (del_any hr hs).mono ?_
  rintro e w' ⟨he, hp⟩
  exact ⟨he, duo_put hg hv sl hb0 tz hp⟩
theorem Duo.row_put (h : Duo w0 w p l v m) (s : ByteArray) (x : Int) (hm : m.length ≤ 999) (ok : SkM.Ok m) :
    Calls Tryd.prog 9 #[v, .agg #[.string s, .int .i64 x]] w fun e w' => (∃ v', e = .returned (.tuple #[v', .bool (SkM.get m s.data.toList).isNone]) ∧ Duo w0 w' p l v' (SkM.put m s.data.toList x)) ∧ Below w.heap.size w w' := by
  refine (put_ref w v m h.row hm ok s x).mono ?_
  rintro e w' ⟨⟨v', he, sl, hn⟩, hb⟩
  exact ⟨⟨v', he, h.fresh hb sl hn⟩, hb⟩
theorem Duo.row_del (h : Duo w0 w p l v m) (s : ByteArray) (hm : m.length ≤ 999) (ok : SkM.Ok m) :
    Calls Tryd.prog 11 #[v, .string s] w fun e w' => (∃ v', e = .returned (.tuple #[v', .bool (SkM.get m s.data.toList).isSome]) ∧ Duo w0 w' p l v' (SkM.del m s.data.toList)) ∧ Below w.heap.size w w' := by
  refine (del_ref w v m h.row (by omega) ok.names s).mono ?_
  rintro e w' ⟨⟨v', he, sl, hn⟩, hb⟩
  rcases hn with rfl | hn
  · exact ⟨⟨_, he, h.other hb sl⟩, hb⟩
  · exact ⟨⟨v', he, h.fresh hb sl hn⟩, hb⟩
theorem Duo.len_ (h : Duo w0 w p l v m) : Calls Tryd.prog 14 #[.pointer (some p)] w fun e w' => e = .returned (.int .i64 (l.length : Int)) ∧ Below w.heap.size w w' := by
  obtain ⟨⟨G, hr, -⟩, -⟩ := h
  exact rlen hr
theorem Duo.levels_ (h : Duo w0 w p l v m) : Calls Tryd.prog 15 #[.pointer (some p)] w fun e w' => (∃ k : Nat, e = .returned (.int .i64 (k : Int)) ∧ k ≤ 20) ∧ Below w.heap.size w w' := by
  obtain ⟨⟨G, hr, -⟩, -⟩ := h
  exact rlevels hr
theorem Duo.all_ (h : Duo w0 w p l v m) : Calls Tryd.prog 17 #[.pointer (some p)] w fun e w' => (∃ v', e = .returned v' ∧ SList w' v' l) ∧ Below w.heap.size w w' := by
  obtain ⟨⟨G, hr, -⟩, -⟩ := h
  exact rall hr
end
theorem kind_five (k : Int) : ∃ m : Nat, m < 5 ∧ (wrap64 (k.tmod 5 + 5)).tmod 5 = (m : Int) := by
  have h1 : k.tmod 5 < 5 := Int.tmod_lt_of_pos k (by omega)
  have h2 : -5 < k.tmod 5 := Int.lt_tmod_of_pos k (by omega)
  generalize k.tmod 5 = t at *
  have h3 : wrap64 (t + 5) = t + 5 := by unfold wrap64; omega
  rw [h3, Int.tmod_eq_emod_of_nonneg (by omega)]
  exact ⟨((t + 5) % 5).toNat, by omega, by omega⟩
end Go.Proofs.YtopnbfhkfagemaaDoor
