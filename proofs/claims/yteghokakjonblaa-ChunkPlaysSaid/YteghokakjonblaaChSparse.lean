/- Package chunk: two chunks side by side that have few texts. -/
import Derived.Test.YteghokakjonblaaChRoom
namespace Go.Proofs.Yteghokakjonblaa
open Go.RowKit Go.Lib
set_option linter.unusedVariables false
set_option maxHeartbeats 2000000 in
theorem sparse_neg (w : World) (q : Nat) :
    Calls Try.prog 38 #[.pointer (some ⟨q, 0, none⟩), .int .i64 (-1)] w fun e w' => e = .returned (.bool false) ∧ Below w.heap.size w w' := by
  go_enter Try.func38, Try.ntmps38
  go_wp2_with fail
  go_region
  go_wp2_with fail
  go_ret
  exact ⟨rfl, (Below.refl _ _).drew⟩
set_option maxHeartbeats 2000000 in
theorem sparse_end (w : World) (q : Nat) (R : Ch) (h : Lies w q R) {pre : List Ck} {c : Ck} (e : R.cs = pre ++ [c]) :
    Calls Try.prog 38 #[.pointer (some ⟨q, 0, none⟩), .int .i64 (pre.length : Int)] w fun e w' => e = .returned (.bool false) ∧ Below w.heap.size w w' := by
  obtain ⟨B, eB, sp⟩ := h.spot e
  have c0 := sp.head
  have b0 := sp.len
  have b1 := sp.big
  obtain ⟨p, ep⟩ : ∃ p, p = pre.length := ⟨_, rfl⟩
  have hn : R.cs.length = p + 1 := by rw [e, ep]; simp
  rw [← ep]
  rw [hn] at c0 b0
  obtain ⟨n, en⟩ : ∃ n, n = p + 1 := ⟨_, rfl⟩
  rw [← en] at c0 b0
  have e1 : (p : Int) + 1 = (n : Int) := by omega
  have wp1 : IntKind.i64.wrap (n : Int) = (n : Int) := by rw [IntKind.wrap_i64]; omega
  have p0 : (0 : Int) ≤ (p : Int) := by omega
  have nn : ¬ ((n : Int) < (n : Int)) := by omega
  clear h sp e eB ep hn en
  go_enter Try.func38, Try.ntmps38
  go_wp2_with fail
  go_region
  go_wp2_with fail
  go_ret
  exact ⟨rfl, (Below.refl _ _).drew⟩
set_option maxHeartbeats 4000000 in
theorem sparse_two (w : World) (q : Nat) (R : Ch) (h : Lies w q R) {pre post : List Ck} {c d : Ck} (e : R.cs = pre ++ c :: d :: post) (hc : c.l.length ≤ 1048576) (hd : d.l.length ≤ 1048576) :
    Calls Try.prog 38 #[.pointer (some ⟨q, 0, none⟩), .int .i64 (pre.length : Int)] w fun e w' => e = .returned (.bool (decide (c.l.length + d.l.length < 16))) ∧ Below w.heap.size w w' := by
  obtain ⟨B, eB, sp⟩ := h.spot e
  have c0 := sp.head
  have c1 := sp.slot
  have c2 : w.cell? ⟨B, pre.length + 1, none⟩ = some (ckv d) := by
    have := h.slot (pre := pre ++ [c]) (c := d) (post := post) (by rw [e]; simp) eB
    rwa [List.length_append] at this
  unfold ckv at c2
  have b0 := sp.len
  have b1 := sp.big
  have bc := sp.ck.len
  have bc1 := sp.ck.big
  have skd := h.ck d (by rw [e]; simp)
  have bd := skd.len
  have bd1 := skd.big
  rw [List.length_map] at bc bd
  obtain ⟨p, ep⟩ : ∃ p, p = pre.length := ⟨_, rfl⟩
  have hn : p + 1 < R.cs.length := by rw [e, ep]; simp
  rw [← ep] at c1 c2 ⊢
  obtain ⟨n, en⟩ : ∃ n, n = R.cs.length := ⟨_, rfl⟩
  rw [← en] at c0 b0 hn
  obtain ⟨p1, ep1⟩ : ∃ p1, p1 = p + 1 := ⟨_, rfl⟩
  rw [← ep1] at hn c2
  have e1 : (p : Int) + 1 = (p1 : Int) := by omega
  have wp1 : IntKind.i64.wrap (p1 : Int) = (p1 : Int) := by rw [IntKind.wrap_i64]; omega
  have p0 : (0 : Int) ≤ (p : Int) := by omega
  have p2 : (p : Int) < (n : Int) := by omega
  have q0 : (0 : Int) ≤ (p1 : Int) := by omega
  have q2 : (p1 : Int) < (n : Int) := by omega
  obtain ⟨x, ex⟩ : ∃ x, x = c.l.length := ⟨_, rfl⟩
  obtain ⟨y, ey⟩ : ∃ y, y = d.l.length := ⟨_, rfl⟩
  rw [← ex] at c1 bc hc ⊢
  rw [← ey] at c2 bd hd ⊢
  obtain ⟨cb, _⟩ : ∃ x, x = c.b := ⟨_, rfl⟩
  obtain ⟨z, ez⟩ : ∃ z, z = x + y := ⟨_, rfl⟩
  have e2 : (x : Int) + (y : Int) = (z : Int) := by omega
  have wz : IntKind.i64.wrap (z : Int) = (z : Int) := by rw [IntKind.wrap_i64]; omega
  rw [← ez]
  by_cases lt : z < 16
  · have lt' : (z : Int) < 16 := by omega
    rw [show decide (z < 16) = true from decide_eq_true lt]
    clear h sp e eB ep en ex ey ez skd ep1 hn lt
    go_enter Try.func38, Try.ntmps38
    go_wp2_with fail
    go_region
    go_wp2_with fail
    go_ret
    exact ⟨rfl, (Below.refl _ _).drew⟩
  · have lt' : (16 : Int) ≤ (z : Int) := by omega
    rw [show decide (z < 16) = false from decide_eq_false lt]
    have dz : decide ((z : Int) < 16) = false := decide_eq_false (by omega)
    clear h sp e eB ep en ex ey ez skd ep1 hn lt
    go_enter Try.func38, Try.ntmps38
    go_wp2_with fail
    go_region
    go_wp2_with fail
    go_ret
    exact ⟨rfl, (Below.refl _ _).drew⟩
section
variable {w w1 : World} {q : Nat} {R : Ch}
/-- A chunk's texts turned where they lie. -/
theorem Lies.swap (h : Lies w q R) {pre post : List Ck} {c c' : Ck} (e : R.cs = pre ++ c :: post) (t : Turn c.rng w w1) (k : CkAt w1 c') (hv : ckv c' = ckv c) (hb : c'.b = c.b) (hr : ∀ a, c'.rng a → c.rng a) : Step w q R w1 { R with cs := pre ++ c' :: post } := by
  have cm : c ∈ R.cs := by rw [e]; simp
  have sep := h.split e
  have old : ∀ x, x ∈ pre ∨ x ∈ post → x ∈ R.cs := fun x hx => by rw [e]; rcases hx with y | y <;> simp [y]
  have mem : ∀ x ∈ pre ++ c' :: post, (x ∈ pre ∨ x ∈ post) ∨ x = c' := fun x hx => by
    rcases List.mem_append.1 hx with y | y
    · exact .inl (.inl y)
    · rcases List.mem_cons.1 y with y | y
      · exact .inr y
      · exact .inl (.inr y)
  have mp : (pre ++ c' :: post).map ckv = R.cs.map ckv := by rw [e]; simp [hv]
  have ml : (pre ++ c' :: post).length = R.cs.length := by rw [e]; simp
  have Dq : ∀ i, ¬ c.rng ⟨q, i, none⟩ := fun i x => h.cq c cm x.1.symm
  refine ⟨⟨?_, ?_, fun i => by rw [t.frozen _ h.lt]; exact h.free i, Nat.lt_of_lt_of_le h.lt t.size, fun z => ?_, fun B z => ?_, h.Bq, fun x hx => ?_, fun x hx => ?_, fun B z x hx => ?_, ?_⟩, t.wide fun a x => .inr (.inr ⟨c, cm, x.1.symm⟩), fun n hn => ?_⟩
  · rw [t.cell _ h.lt (Dq 0), h.head]
    show some (hdv R.B R.cs.length R.cap) = some (hdv R.B (pre ++ c' :: post).length R.cap)
    rw [ml]
  · rw [t.cell _ h.lt (Dq 1)]; exact h.num
  · have := (h.none_ z).1
    rw [e] at this
    simp at this
  · show Sl w1 B 0 R.cap ((pre ++ c' :: post).map ckv)
    rw [mp]
    exact (h.some_ B z).turn t fun a ha hc => h.cB B z c cm (hc.1.symm.trans ha.1)
  · rcases mem x hx with y | rfl
    · exact (h.ck x (old x y)).turn t fun a ha hc => sep x y a ha hc
    · exact k
  · rcases mem x hx with y | rfl
    · exact h.cq x (old x y)
    · rw [hb]; exact h.cq c cm
  · rcases mem x hx with y | rfl
    · exact h.cB B z x (old x y)
    · rw [hb]; exact h.cB B z c cm
  · have p := h.apart
    rw [e] at p
    exact pw_mid p (fun x hx _ a ha hc => sep x (.inl hx) a ha (hr a hc)) (fun x hx _ a hc ha => sep x (.inr hx) a ha (hr a hc))
  · rcases hn with x | x | ⟨d, hd, x⟩
    · exact .inl (.inl x)
    · exact .inl (.inr (.inl x))
    · rcases mem d hd with y | rfl
      · exact .inl (.inr (.inr ⟨d, old d y, x⟩))
      · exact .inl (.inr (.inr ⟨c, cm, by rw [← hb]; exact x⟩))
theorem map_erase {α β : Type} (f : α → β) : ∀ (l : List α) (k : Nat), (l.map f).eraseIdx k = (l.eraseIdx k).map f
  | [], k => by simp
  | a :: r, 0 => by simp
  | a :: r, k + 1 => by simp [map_erase f r k]
/-- Behind slices.Delete of one chunk the row's first cell is written. -/
theorem Lies.deleted (h : Lies w q R) {B k : Nat} (eB : R.B = some B) (hk : k < R.cs.length) (t : Turn (Rng B 0 R.cap) w w1) (s : Sl w1 B 0 R.cap ((R.cs.map ckv).eraseIdx k)) : Step w q R (w1.setCell ⟨q, 0, none⟩ (hdv (some B) (R.cs.length - 1) R.cap)) { R with cs := R.cs.eraseIdx k } := by
  rw [map_erase] at s
  have sub : ∀ x ∈ R.cs.eraseIdx k, x ∈ R.cs := fun x hx => List.mem_of_mem_eraseIdx hx
  have Bq := h.Bq B eB
  have st := h.setHead t (fun i e => Bq e.1.symm) s Bq (fun x hx => (h.ck x (sub x hx)).turn t fun a ha e => h.cB B eB x (sub x hx) (ha.1.symm.trans e.1)) (fun x hx => h.cq x (sub x hx)) (fun x hx => h.cB B eB x (sub x hx)) (h.apart.sublist (List.eraseIdx_sublist _ _))
  rw [List.length_eraseIdx_of_lt hk] at st
  have e1 : { R with B := some B, cap := R.cap, cs := R.cs.eraseIdx k } = { R with cs := R.cs.eraseIdx k } := by rw [← eB]
  rw [e1] at st
  refine ⟨st.1, st.2.wide fun a x => ?_, fun n hn => ?_⟩
  · rcases x with x | x
    · exact .inr (.inl (by rw [x.1]; exact eB))
    · exact .inl x
  · rcases hn with x | x | ⟨d, hd, x⟩
    · exact .inl (.inl x)
    · exact .inl (.inr (.inl x))
    · exact .inl (.inr (.inr ⟨d, sub d hd, x⟩))
theorem erase_mid {α : Type} (pre post : List α) (c : α) : (pre ++ c :: post).eraseIdx pre.length = pre ++ post := by
  rw [List.eraseIdx_append_of_length_le (Nat.le_refl _), Nat.sub_self]
  rfl
end
end Go.Proofs.Yteghokakjonblaa
