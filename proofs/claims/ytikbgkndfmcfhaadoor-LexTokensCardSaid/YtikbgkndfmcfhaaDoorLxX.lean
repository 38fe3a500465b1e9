/- Package lex: the text between marks: the whole function (printed by genlxt.py). -/
import Derived.Test.YtikbgkndfmcfhaaDoorLxE
import Derived.Test.YtikbgkndfmcfhaaDoorLxH
namespace Go.Proofs.YtikbgkndfmcfhaaDoor
open Go.RowKit
set_option linter.unusedVariables false
theorem t_first {W0 : World} {g f : Nat} {s : ByteArray} {tv : Value} {rb k0 : Nat} {m : UInt8} (hs : s.size ≤ 16384) (hm : m = 34 ∨ m = 39) (a : Act) (w : World) (h : JT W0 g f s tv rb k0 m 0 a w) (Y : Code) (hY : restT = some Y) : Y.wp Tryd.prog (passT W0 g f s tv rb k0 m 0 a w) a w := by
  obtain ⟨X, e, -, hX⟩ := t_pass0 hs hm a w h
  rw [e] at hY
  injection hY with hY
  subst hY
  exact hX
set_option maxRecDepth 20000 in
set_option maxHeartbeats 2000000 in
theorem text_any (W : World) (g : Nat) (s : ByteArray) (f k0 : Nat) (tv : Value) (m : UInt8) (h : Rb W g s f k0 tv) (hk : k0 ≤ s.size) (hs : s.size ≤ 16384) (hm : m = 34 ∨ m = 39) :
    Calls Tryd.prog 34 #[.pointer (some ⟨g, 0, none⟩), .int .i64 (m.toNat : Int)] W (PT W g f s tv k0 m) := by
  have TX0 : Hid (TX W g f s tv W.heap.size k0 k0 [] (.slice none 0 0) (W.alloc (.cells #[.int .i64 0, .string ⟨#[]⟩, .int .i64 0, .int .i64 0] 31))) :=
    ⟨h.keep ((Below.refl _ W).alloc (Nat.le_refl _) _), Blk.new W _ _, ⟨rfl, .inl ⟨rfl, rfl⟩⟩, below_grown ((Below.refl _ W).alloc (Nat.le_refl _) _) _, Nat.le_refl _, h.lt, hk, Nat.le_refl _, Nat.zero_le _⟩
  have PS : Hid (∀ l a w, JT W g f s tv W.heap.size k0 m l a w → ∃ rest, findLabel codeT l = some rest ∧ rest.wp Tryd.prog (passT W g f s tv W.heap.size k0 m l a w) a w) := fun l a w hj => by
    rcases l with _ | _ | _ | _ | _ | _ | l
    · obtain ⟨X, -, e, hX⟩ := t_pass0 hs hm a w hj
      exact ⟨.seq .skip X, e, wp_seq (wp_skip hX)⟩
    · exact t_pass1 hs a w hj
    · exact t_pass2 hs a w hj
    · exact t_pass3 hs a w hj
    · exact t_pass4 hs a w hj
    · exact t_pass5 hs a w hj
    · obtain ⟨b, hi, lo, dv, k, acc, -, -, hF⟩ := hj
      exact absurd hF id
  clear h
  go_enter Tryd.func34, Tryd.ntmps34
  go_wp2_with fail
  refine wp_scope_labels (JT W g f s tv W.heap.size k0 m) (mT g s) ?_ PS.out
  go_wp2_with fail
  go_step3
  rename_i hK
  refine hK _ _ ?_
  clear hK
  exact wp_mono (t_first hs hm _ _ ⟨_, _, _, _, k0, [], FrT.mk, TX0.out, (LxM.app_nil _).symm⟩ _ rfl) fun e a w q => by cases e <;> first | exact q.1 | exact q
end Go.Proofs.YtikbgkndfmcfhaaDoor
