/- Package table keeps what the laws ask of it. -/
import Derived.Test.YtedpanfdkdbblaaTbPutW
import Derived.Test.YtedpanfdkdbblaaTbNames
namespace Go.Proofs.Ytedpanfdkdbblaa
open Go.RowKit
set_option linter.unusedVariables false
theorem Only.wider {F G : Nat → Prop} {a b : World} (h : Only F a b) (k : ∀ n, F n → G n) : Only G a b := ⟨h.os, h.tape, h.output, h.size, fun n hn hg => h.block n hn fun f => hg (k n f)⟩
/-- A new table in memory. -/
theorem new_lies (w : World) (t t2 : TypeId) : Lies ((w.alloc (.cells (row0 8) t)).alloc (.cells #[.slice (some ⟨w.heap.size, 0, none⟩) 8 8, .slice none 0 0, .int .i64 0, .int .i64 0, .int .i64 0] t2)) (w.heap.size + 1) ⟨w.heap.size, List.replicate 8 [], none, 0, 0, 0⟩ := by
  obtain ⟨w1, h1⟩ : ∃ w1, w.alloc (.cells (row0 8) t) = w1 := ⟨_, rfl⟩
  have a1 : Arr w1 w.heap.size (List.replicate 8 []) := by rw [← h1]; exact arr_new w 8 t
  have sz : w.heap.size + 1 = w1.heap.size := by rw [← h1]; show _ = (w.heap.push _).size; simp
  rw [h1, sz]
  have al : Below w1.heap.size w1 (w1.alloc (.cells #[.slice (some ⟨w.heap.size, 0, none⟩) 8 8, .slice none 0 0, .int .i64 0, .int .i64 0, .int .i64 0] t2)) := (Below.refl _ w1).alloc (Nat.le_refl _) _
  refine ⟨⟨?_, ?_, ?_, ?_, ?_, fun i => World.frozen?_alloc_new _ _ _ _, ?_⟩, a1.turn (Turn.of_below (D := fun _ => False) al) (fun _ e => e) (fun _ _ _ e => e), fun B cs e => (nomatch e)⟩
  · rw [World.cell?_alloc_new]; rfl
  · rw [World.cell?_alloc_new]; rfl
  · rw [World.cell?_alloc_new]; rfl
  · rw [World.cell?_alloc_new]; rfl
  · rw [World.cell?_alloc_new]; rfl
  · show w1.heap.size < (w1.heap.push _).size
    simp
theorem new_tab (w : World) (t t2 : TypeId) : Tab ((w.alloc (.cells (row0 8) t)).alloc (.cells #[.slice (some ⟨w.heap.size, 0, none⟩) 8 8, .slice none 0 0, .int .i64 0, .int .i64 0, .int .i64 0] t2)) (w.heap.size + 1) ⟨w.heap.size, List.replicate 8 [], none, 0, 0, 0⟩ TabM.fresh := by
  have nd : nodes ⟨w.heap.size, List.replicate 8 [], none, 0, 0, 0⟩ = [] := rfl
  refine ⟨new_lies w t t2, ⟨?_, fun i x hx => ?_, fun B cs e => (nomatch e), ?_, ?_, rfl, fun i hi => absurd hi (Nat.not_lt_zero _), Nat.zero_le _, fun _ => rfl⟩, ?_, ?_, Nat.zero_le _⟩
  · unfold blocks
    rw [nd]
    simp [B2s]
  · have hx : x ∈ chainAt (List.replicate 8 []) i := hx
    rw [chainAt_new] at hx
    cases hx
  · rw [nd]; exact List.nodup_nil
  · rw [nd]; exact fun x hx => by cases hx
  · exact ⟨⟨0, rfl⟩, Nat.le_refl _, by decide, Nat.le_refl _, fun _ => ⟨rfl, Nat.zero_le _, .inl rfl⟩, fun t e => (nomatch e)⟩
  · rw [nd]; exact List.Perm.refl _
theorem new_any (w : World) : Calls Try.prog 7 #[] w fun e w' => e = .returned (.pointer (some ⟨w.heap.size + 1, 0, none⟩)) ∧ Tab w' (w.heap.size + 1) ⟨w.heap.size, List.replicate 8 [], none, 0, 0, 0⟩ TabM.fresh ∧ Below w.heap.size w w' := by
  have mk := made_slots 8 w (by decide)
  have e8 : ((8 : Nat) : Int) = 8 := rfl
  rw [e8] at mk
  have sz : (w.alloc (.cells (row0 8) 58)).heap.size = w.heap.size + 1 := by show (w.heap.push _).size = _; simp
  have N := Lib.hid (new_tab w 58 50)
  have BB : Hid (Below w.heap.size w ((w.alloc (.cells (row0 8) 58)).alloc (.cells #[.slice (some ⟨w.heap.size, 0, none⟩) 8 8, .slice none 0 0, .int .i64 0, .int .i64 0, .int .i64 0] 50))) := ((Below.refl _ w).alloc (Nat.le_refl _) _).alloc (by rw [sz]; omega) _
  obtain ⟨c, hc⟩ : ∃ c, row0 8 = c := ⟨_, rfl⟩
  rw [hc] at mk N BB sz
  clear hc e8
  go_enter Try.func7, Try.ntmps7
  go_wp2_with fail
  go_ret
  exact ⟨by first | rfl | simp, N.out, BB.out⟩
theorem tab_ok : TabOk TabRel where
  keep := by
    rintro w w' F p M m ⟨q, T, rfl, h, rfl, hf⟩ hb
    exact ⟨q, T, rfl, ⟨h.lies.below hb, h.ok, h.num, h.perm, h.work⟩, rfl, hf⟩
  rest := by
    rintro w F p M m ⟨q, T, rfl, h, rfl, hf⟩
    have := h.len
    have := flat_le T
    rw [← h.ok.cnt] at this
    unfold callsLeft
    split
    · unfold callsOf; omega
    · omega
  new_ w := by
    refine (new_any w).mono ?_
    rintro e w' ⟨he, ht, hb⟩
    refine ⟨⟨w.heap.size + 1, 0, none⟩, fun k => w.heap.size ≤ k, _, he, ⟨_, _, rfl, ht, rfl, fun k hk => ?_⟩, fun k hk => hk, hb⟩
    unfold blocks at hk
    simp [B2s, nodes, second] at hk
    omega
  put := by
    rintro w F p M m ⟨q, T, rfl, h, rfl, hf⟩ s n hs hl
    refine (put_any h s n hs hl).mono ?_
    rintro e w' ⟨he, T2, h2, sb, ho⟩
    refine ⟨he, ⟨fun k => F k ∨ w.heap.size ≤ k, _, ⟨q, T2, rfl, h2, rfl, fun k hk => (sb k hk).imp (hf k) id⟩, trivial, fun k hk => hk⟩, ho.wider hf⟩
  get := by
    rintro w F p M m ⟨q, T, rfl, h, rfl, hf⟩ s hs
    refine (get_any h s hs).mono ?_
    rintro e w' ⟨he, T1, h1, hc, sb, ho⟩
    exact ⟨he, ⟨F, _, ⟨q, T1, rfl, h1, rfl, fun k hk => hf k (sb k hk)⟩, hc, fun k hk => .inl hk⟩, ho.wider hf⟩
  del := by
    rintro w F p M m ⟨q, T, rfl, h, rfl, hf⟩ s hs
    refine (del_any h s hs).mono ?_
    rintro e w' ⟨he, T2, h2, sb, ho⟩
    refine ⟨he, ⟨fun k => F k ∨ w.heap.size ≤ k, _, ⟨q, T2, rfl, h2, rfl, fun k hk => (sb k hk).imp (hf k) id⟩, trivial, fun k hk => hk⟩, ho.wider hf⟩
  len := by
    rintro w F p M m ⟨q, T, rfl, h, rfl, hf⟩
    refine (len_any w q T h.lies.head).mono ?_
    rintro e w' ⟨he, rfl⟩
    exact ⟨⟨_, he, by rw [h.len]⟩, Below.refl _ _⟩
  names := by
    rintro w F p M m ⟨q, T, rfl, h, rfl, hf⟩
    exact names_any h
  slots := by
    rintro w F p M m ⟨q, T, rfl, h, rfl, hf⟩
    refine (slots_any w q T h.lies.head h.num.fits.1).mono ?_
    rintro e w' ⟨he, hb⟩
    refine ⟨⟨_, he, _, rfl, ?_⟩, hb⟩
    have := h.num.total
    have e2 : (sizeOf2 T).getD 0 = size2 T.two := by
      unfold sizeOf2 size2
      rcases T.two with _ | ⟨B, cs⟩ <;> rfl
    rw [e2] at this
    exact this
  moving := by
    rintro w F p M m ⟨q, T, rfl, h, rfl, hf⟩
    refine (moving_any w q T h.lies.head).mono ?_
    rintro e w' ⟨he, rfl⟩
    refine ⟨⟨_, he, ?_⟩, Below.refl _ _⟩
    unfold callsLeft
    cases T.two.isSome
    · rfl
    · have : 0 < callsOf T.c.flatten.length := by unfold callsOf; omega
      rw [if_pos rfl, decide_eq_true this]
  work := by
    rintro w F p M m ⟨q, T, rfl, h, rfl, hf⟩
    refine (work_any w q T h.lies.head).mono ?_
    rintro e w' ⟨he, rfl⟩
    exact ⟨⟨_, he, _, rfl, h.work⟩, Below.refl _ _⟩
  put0 w s n := (put_nil w s n).mono fun e w' ⟨he, h⟩ => ⟨⟨_, he, rfl⟩, h ▸ Below.refl _ _⟩
  get0 w s := (get_nil w s).mono fun e w' ⟨he, h⟩ => ⟨⟨_, he, rfl⟩, h ▸ Below.refl _ _⟩
  del0 w s := (del_nil w s).mono fun e w' ⟨he, h⟩ => ⟨⟨_, he, rfl⟩, h ▸ Below.refl _ _⟩
  len0 w := (len_nil w).mono fun e w' ⟨he, h⟩ => ⟨⟨_, he, rfl⟩, h ▸ Below.refl _ _⟩
  names0 w := (names_nil w).mono fun e w' ⟨he, h⟩ => ⟨⟨_, he, none, 0, rfl⟩, h ▸ Below.refl _ _⟩
  slots0 w := (slots_nil w).mono fun e w' ⟨he, h⟩ => ⟨⟨_, he, rfl⟩, h ▸ Below.refl _ _⟩
  moving0 w := (moving_nil w).mono fun e w' ⟨he, h⟩ => ⟨⟨_, he, rfl⟩, h ▸ Below.refl _ _⟩
  work0 w := (work_nil w).mono fun e w' ⟨he, h⟩ => ⟨⟨_, he, rfl⟩, h ▸ Below.refl _ _⟩
end Go.Proofs.Ytedpanfdkdbblaa
