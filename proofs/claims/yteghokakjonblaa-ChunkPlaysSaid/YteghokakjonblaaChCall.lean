/- Package chunk: a text put into a chunk; texts read and replaced. -/
import Derived.Test.YteghokakjonblaaChFind
import Derived.Test.YteghokakjonblaaChInsS
import Derived.Test.YteghokakjonblaaLaid
import Derived.Lib.SliceRun
namespace Go.Proofs.Yteghokakjonblaa
open Go.RowKit Go.Lib
set_option linter.unusedVariables false
theorem clone_any (s : ByteArray) (w : World) (hs : s.size ≤ 281474976710656) : Calls Try.prog 29 #[.string s] w fun e w' => e = .returned (.string s) ∧ Below w.heap.size w w' := by
  have H := Lib.hid (Try.stringslite_Clone s w hs)
  go_enter Try.func29, Try.ntmps29
  go_wp2_with fail
  go_at_call 36
  refine H.out.mono ?_
  rintro e w' ⟨rfl, hb⟩
  have HB := Lib.hid hb
  clear hb
  go_wp2_with fail
  go_ret
  exact ⟨rfl, HB.out⟩
/-- clear of a row of texts. -/
theorem clear_any {w : World} {b off cap n : Nat} {l : List Value} (h : Sl w b off cap l) (hn : n ≤ cap) (c : Nat) : ∀ ty, (Builtin.clear_ #[22] ty #[.slice (some ⟨b, off, none⟩) n c]).run Try.prog w = .ok (.tuple #[]) (w.setCells b off (List.replicate n (.string ⟨#[]⟩))) := fun ty => by
  rcases Nat.eq_zero_or_pos n with e | e
  · subst e
    simp [Builtin.clear_, run_underlying Try.underlying22]
    rfl
  · exact Lib.run_clear_slice w _ _ ty _ Try.underlying22 Try.zeroValue9 rfl rfl b off n c e (fun t ht => h.is t (by omega)) (fun t ht => h.free _)
/-- The text s put in at a place. -/
def insAt (l : List ByteArray) (k : Nat) (s : ByteArray) : List ByteArray := l.take k ++ s :: l.drop k
def PutIn (w : World) (c : Ck) (k : Nat) (s : ByteArray) (e : Ending) (w' : World) : Prop :=
  ∃ c' : Ck, e = .returned (ckv c') ∧ CkAt w' c' ∧ c'.l = insAt c.l k s ∧ Turn c.rng w w' ∧ ((c'.b = c.b ∧ c'.off = c.off ∧ c'.cap = c.cap) ∨ w.heap.size ≤ c'.b)
set_option maxHeartbeats 1000000 in
theorem put_any (w : World) (c : Ck) (h : CkAt w c) (k : Nat) (hk : k ≤ c.l.length) (h9 : c.l.length ≤ 1048576) (s : ByteArray) :
    Calls Try.prog 28 #[ckv c, .int .i64 (k : Int), .string s] w (PutIn w c k s) := by
  obtain ⟨b, off, cap, l⟩ := c
  have h : Sl w b off cap (l.map Value.string) := h
  have h9 : l.length ≤ 1048576 := h9
  have hk : k ≤ l.length := hk
  show Calls Try.prog 28 #[.slice (some ⟨b, off, none⟩) l.length cap, .int .i64 (k : Int), .string s] w _
  have call : Hid (Calls Try.prog 35 #[.slice (some ⟨b, off, none⟩) l.length cap, .int .i64 (k : Int), .slice (some ⟨w.heap.size, 0, none⟩) 1 1] (w.alloc (.cells #[.string s] 9)) (Ins (w.alloc (.cells #[.string s] 9)) b off cap (l.map Value.string) k (.string s))) := by
    show Calls _ _ _ _ _
    have h1 := h.below ((Below.refl _ w).alloc (Nat.le_refl _) (.cells #[.string s] 9))
    have := insS.any h1 (Src1.new w (.string s) 9 rfl) k (by simpa using hk) (by rw [List.length_map]; omega) (by have := h.lt; omega)
    rwa [List.length_map] at this
  have len := h.len
  have big := h.big
  rw [List.length_map] at len
  have H := Lib.hid h
  have HK := Lib.hid hk
  obtain ⟨n, en⟩ : ∃ n, n = l.length := ⟨_, rfl⟩
  rw [← en] at call len h9 ⊢
  have HN := Lib.hid en
  clear h hk en
  have n0 : (0 : Int) ≤ (n : Int) := by omega
  have c0 : (0 : Int) ≤ (cap : Int) := by omega
  have c1 : (cap : Int) ≤ 9223372036854775807 := by omega
  go_enter Try.func28, Try.ntmps28
  go_wp2_with fail
  go_at_call 35
  refine call.out.mono ?_
  rintro e w1 ⟨b', off', cap', rfl, sl, alt⟩
  have e1 : (l.map Value.string).take k ++ Value.string s :: (l.map Value.string).drop k = (insAt l k s).map Value.string := by unfold insAt; simp
  rw [e1] at sl
  have e2 : (l.map Value.string).length + 1 = (insAt l k s).length := by have := HK.out; unfold insAt; simp; omega
  rw [e2]
  rw [List.length_map, ← HN.out] at alt
  have SL := Lib.hid sl
  have t0 : Turn (Rng b off cap) w (w.alloc (.cells #[.string s] 9)) := (Turn.refl _ w).alloc _
  have T0 := Lib.hid t0
  clear sl e1 e2 t0
  rcases alt with ⟨lt, rfl, rfl, rfl, t⟩ | ⟨eq, fr, rfl, t⟩
  · have ne : ¬ ((n : Int) = (cap' : Int)) := by omega
    have T := Lib.hid t
    clear t call
    go_wp2_with fail
    go_ret
    exact ⟨⟨b', off', cap', insAt l k s⟩, rfl, SL.out, rfl, T0.out.trans T.out fun a e => .inl e, .inl ⟨rfl, rfl, rfl⟩⟩
  · subst eq
    have T := Lib.hid t
    have old : Sl w1 b off n (l.map Value.string) := (H.out.below ((Below.refl _ w).alloc (Nat.le_refl _) _)).below t
    have cl := clear_any old (Nat.le_refl n) n
    have FR := Lib.hid fr
    have OLD := Lib.hid old
    clear t call fr old
    go_wp2_with fail
    go_ret
    have tc : Turn (Rng b off n) w1 (w1.setCells b off (List.replicate n (.string ⟨#[]⟩))) := Turn.lay b off n 0 (List.replicate n (.string ⟨#[]⟩)) w1 (by rw [List.length_replicate]; omega)
    have sz : w.heap.size + 1 ≤ b' := by
      have := FR.out
      show w.heap.size + 1 ≤ b'
      have k : (w.alloc (.cells #[.string s] 9)).heap.size = w.heap.size + 1 := by show (w.heap.push _).size = _; simp
      omega
    refine ⟨⟨b', 0, cap', insAt l k s⟩, rfl, SL.out.turn tc fun a ha hc => ?_, rfl, (T0.out.trans (Turn.of_below T.out) fun a e => .inl e).trans tc fun a e => .inl e, .inr (by show w.heap.size ≤ b'; omega)⟩
    have := H.out.lt
    have x1 := ha.1
    have x2 := hc.1
    omega
end Go.Proofs.Yteghokakjonblaa
