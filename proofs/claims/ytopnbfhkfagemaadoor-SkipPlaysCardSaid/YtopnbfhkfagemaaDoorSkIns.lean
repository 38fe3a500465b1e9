/- Package skip: what the rounds of insert and of take leave. -/
import Derived.Test.YtopnbfhkfagemaaDoorSkLink
namespace Go.Proofs.YtopnbfhkfagemaaDoor
open Go.RowKit
set_option linter.unusedVariables false
/-- No two blocks of a set are one. -/
def Apart (q F m : Nat) (ns : List Nd) : Prop := (q :: F :: m :: (ns.map Nd.b ++ ns.map Nd.L)).Nodup
structure Apt (q F m : Nat) (ns : List Nd) : Prop where
  qF : q ≠ F
  qm : q ≠ m
  Fm : F ≠ m
  q_ : ∀ y ∈ ns, q ≠ y.b ∧ q ≠ y.L
  F_ : ∀ y ∈ ns, F ≠ y.b ∧ F ≠ y.L
  m_ : ∀ y ∈ ns, m ≠ y.b ∧ m ≠ y.L
  bL : ∀ y ∈ ns, ∀ z ∈ ns, y.b ≠ z.L
  nb : (ns.map Nd.b).Nodup
  nL : (ns.map Nd.L).Nodup
theorem Apart.apt {q F m : Nat} {ns : List Nd} (h : Apart q F m ns) : Apt q F m ns := by
  unfold Apart at h
  obtain ⟨h1, h⟩ := List.nodup_cons.1 h
  obtain ⟨h2, h⟩ := List.nodup_cons.1 h
  obtain ⟨h3, h⟩ := List.nodup_cons.1 h
  obtain ⟨h4, h5, h6⟩ := List.nodup_append.1 h
  have mb : ∀ y ∈ ns, y.b ∈ ns.map Nd.b := fun y hy => List.mem_map.2 ⟨y, hy, rfl⟩
  have mL : ∀ y ∈ ns, y.L ∈ ns.map Nd.L := fun y hy => List.mem_map.2 ⟨y, hy, rfl⟩
  simp only [List.mem_cons, List.mem_append, not_or] at h1 h2 h3
  exact ⟨h1.1, h1.2.1, h2.1, fun y hy => ⟨fun e => h1.2.2.1 (e ▸ mb y hy), fun e => h1.2.2.2 (e ▸ mL y hy)⟩, fun y hy => ⟨fun e => h2.2.1 (e ▸ mb y hy), fun e => h2.2.2 (e ▸ mL y hy)⟩, fun y hy => ⟨fun e => h3.1 (e ▸ mb y hy), fun e => h3.2 (e ▸ mL y hy)⟩, fun y hy z hz => h6 y.b (mb y hy) z.L (mL z hz), h4, h5⟩
theorem Apt.apart {q F m : Nat} {ns : List Nd} (h : Apt q F m ns) : Apart q F m ns := by
  unfold Apart
  refine List.nodup_cons.2 ⟨fun k => ?_, List.nodup_cons.2 ⟨fun k => ?_, List.nodup_cons.2 ⟨fun k => ?_, List.nodup_append.2 ⟨h.nb, h.nL, fun a ha b hb => ?_⟩⟩⟩⟩
  · simp only [List.mem_cons, List.mem_append, List.mem_map] at k
    rcases k with k | k | ⟨y, hy, k⟩ | ⟨y, hy, k⟩
    · exact h.qF k
    · exact h.qm k
    · exact (h.q_ y hy).1 k.symm
    · exact (h.q_ y hy).2 k.symm
  · simp only [List.mem_cons, List.mem_append, List.mem_map] at k
    rcases k with k | ⟨y, hy, k⟩ | ⟨y, hy, k⟩
    · exact h.Fm k
    · exact (h.F_ y hy).1 k.symm
    · exact (h.F_ y hy).2 k.symm
  · simp only [List.mem_append, List.mem_map] at k
    rcases k with ⟨y, hy, k⟩ | ⟨y, hy, k⟩
    · exact (h.m_ y hy).1 k.symm
    · exact (h.m_ y hy).2 k.symm
  · obtain ⟨y, hy, rfl⟩ := List.mem_map.1 ha
    obtain ⟨z, hz, rfl⟩ := List.mem_map.1 hb
    exact h.bL y hy z hz
theorem Apart.perm {q F m : Nat} {ns ms : List Nd} (h : Apart q F m ns) (p : ns.Perm ms) : Apart q F m ms :=
  ((((p.map Nd.b).append (p.map Nd.L)).cons m).cons F).cons q |>.nodup_iff.1 h
theorem Apart.sub {q F m : Nat} {ns ms : List Nd} (h : Apart q F m ns) (s : ms.Sublist ns) : Apart q F m ms :=
  List.Nodup.sublist ((((s.map Nd.b).append (s.map Nd.L)).cons_cons m).cons_cons F |>.cons_cons q) h
theorem mid_sub {α : Type} (a b : List α) (x : α) : (a ++ b).Sublist (a ++ x :: b) := (List.Sublist.refl a).append (List.sublist_cons_self x b)
/-- The cells that relinking may turn. -/
def Ln (F : Nat) (ns : List Nd) : Addr → Prop := fun a => a.block = F ∨ ∃ y ∈ ns, a.block = y.L
section
variable {q F m : Nat} {x : Nd} {pre post : List Nd} {w wr w3 : World} {i : Nat} {P A : List Nd} {B c : Nat}
theorem Hind.of (o : Hind F i P B c) {ns : List Nd} (s : ∀ y ∈ P, y ∈ ns) : B = F ∨ ∃ y ∈ ns, B = y.L := by
  rcases o with ⟨-, h, -⟩ | ⟨P', y, e, h, -, -⟩
  · exact .inl h
  · exact .inr ⟨y, s y (by rw [e]; simp), h⟩
theorem Apt.front (ap : Apt q F m (pre ++ x :: post)) (e : pre = P ++ A) : (F :: P.map Nd.L).Nodup := by
  refine List.nodup_cons.2 ⟨fun k => ?_, ?_⟩
  · obtain ⟨y, hy, k⟩ := List.mem_map.1 k
    exact (ap.F_ y (by rw [e]; simp [hy])).2 k.symm
  · have := ap.nL
    rw [e, List.map_append, List.map_append] at this
    exact (List.nodup_append.1 (List.nodup_append.1 this).1).1
theorem Apt.far (ap : Apt q F m (pre ++ x :: post)) (e : pre = P ++ A) (o : Hind F i P B c) : ∀ y ∈ x :: post, y.L ≠ B := fun y hy k => by
  rcases o with ⟨-, h, -⟩ | ⟨P', z, ez, h, -, -⟩
  · exact (ap.F_ y (List.mem_append_right _ hy)).2 (by rw [k, h])
  · have := ap.nL
    rw [List.map_append] at this
    exact (List.nodup_append.1 this).2.2 z.L (List.mem_map.2 ⟨z, by rw [e, ez]; simp, rfl⟩) y.L (List.mem_map.2 ⟨y, hy, rfl⟩) (by rw [k, h])
/-- The rounds of insert below level i are done. -/
structure LIn (w : World) (F i : Nat) (x : Nd) (pre post : List Nd) (wr : World) : Prop where
  turn : Turn (Ln F (pre ++ x :: post)) w wr
  mid : Mid wr F i (pre ++ x :: post) (pre ++ post)
  room : Room wr x i
theorem nx_low (hi : i < x.h) (hA : ∀ y ∈ A, y.h ≤ i) : nx i (A ++ x :: post) = (some x.b, A.length + 1) := by
  rw [nx_skip i A _ hA, nx, if_pos hi]
  show (some x.b, 1 + A.length) = _
  rw [Nat.add_comm]
theorem nx_high (hi : ¬ i < x.h) (hA : ∀ y ∈ A, y.h ≤ i) : nx i (A ++ x :: post) = lon 1 (nx i (A ++ post)) := by
  rw [nx_skip i A _ hA, nx_skip i A post hA, nx, if_neg hi, lon_lon, lon_lon, Nat.add_comm]
theorem LIn.low (h : LIn w F i x pre post wr) (ap : Apt q F m (pre ++ x :: post)) (hi : i < 20) (hx : i < x.h) (e : pre = P ++ A) (hA : ∀ y ∈ A, y.h ≤ i) (o : Hind F i P B c) (hb : Below wr.heap.size wr w3) {n k : Int} (hn : ((nx i post).2 : Int) = n) (hk : ((A.length + 1 : Nat) : Int) = k) :
    LIn w F (i + 1) x pre post (put2 (put2 w3 x.L i (pt (nx i post).1) n) B i (some ⟨x.b, 0, none⟩) k) := by
  have m3 := h.mid.below hb
  have t3 : Turn (Ln F (pre ++ x :: post)) w w3 := h.turn.trans (Turn.of_below (D := fun _ => False) hb) fun _ e => e.elim
  have xin : x ∈ pre ++ x :: post := by simp
  have room3 : Room w3 x i := h.room.turn (Turn.of_below (D := fun _ => False) hb) fun _ _ => ⟨fun e => e, fun e => e⟩
  obtain ⟨u, v, r0, r1⟩ := room3 i (Nat.le_refl _) hx
  have xB : x.L ≠ B := ap.far e o x List.mem_cons_self
  have t4 := put2_turn w3 x.L i (pt (nx i post).1) n
  have l4 : LinkAt (put2 w3 x.L i (pt (nx i post).1) n) x.L i post := put2_link r0 r1 hn
  have m4 : Mid (put2 w3 x.L i (pt (nx i post).1) n) F i (P ++ (A ++ x :: post)) (P ++ (A ++ post)) := by
    have far : ∀ (b l : Nat), b ≠ x.L ∨ l ≠ i → ¬ two x.L i ⟨b, l * 2, none⟩ ∧ ¬ two x.L i ⟨b, l * 2 + 1, none⟩ := fun b l e => by
      refine ⟨fun k => ?_, fun k => ?_⟩ <;> rcases k with k | k <;> injection k with k1 k2 _ <;> rcases e with e | e <;> first | exact e k1 | omega
    rw [← List.append_assoc, ← List.append_assoc, ← e]
    have nL := ap.nL
    rw [List.map_append, List.map_cons] at nL
    have nL2 := List.nodup_append.1 nL
    refine ⟨fun l hl => (m3.lo l hl).turn t4 (far _ _ (.inr (by omega))).1 (far _ _ (.inr (by omega))).2 fun y _ _ => far _ _ (.inr (by omega)), fun l h1 h2 => (m3.hi l h1 h2).turn t4 (far _ _ (.inl (ap.F_ x xin).2)).1 (far _ _ (.inl (ap.F_ x xin).2)).2 fun y hy _ => far _ _ (.inl fun k => ?_)⟩
    rcases List.mem_append.1 hy with hy | hy
    · exact nL2.2.2 y.L (List.mem_map.2 ⟨y, hy, rfl⟩) x.L (by simp) k
    · exact (List.nodup_cons.1 nL2.2.1).1 (by rw [← k]; exact List.mem_map.2 ⟨y, hy, rfl⟩)
  have low := nx_low (post := post) hx hA
  have lv : LevR (put2 w3 x.L i (pt (nx i post).1) n) i (x :: post) := by
    have := (m4.hi i (Nat.le_refl _) hi).2
    rw [← List.append_assoc] at this
    exact ⟨fun _ => l4, LevR.back this⟩
  have fin := m4.relink hi o hA (ap.front e) lv (fun y hy _ => ap.far e o y hy) (n := k) (by rw [low]; exact hk)
  rw [low] at fin
  rw [← List.append_assoc, ← List.append_assoc, ← e] at fin
  refine ⟨?_, fin, ?_⟩
  · refine (t3.trans t4 fun a ha => .inl (.inr ⟨x, xin, two_block a ha⟩)).trans (put2_turn _ _ _ _ _) fun a ha => .inl ?_
    unfold Ln
    rw [two_block a ha]
    exact o.of fun y hy => by rw [e]; simp [hy]
  · have off : ∀ (b b' l : Nat), i + 1 ≤ l → ¬ two b i ⟨b', l * 2, none⟩ ∧ ¬ two b i ⟨b', l * 2 + 1, none⟩ := fun b b' l h => by
      refine ⟨fun k => ?_, fun k => ?_⟩ <;> rcases two_off _ k with k | k <;> (simp only at k; omega)
    exact ((room3.up (Nat.le_succ i)).turn t4 fun l hl => off _ _ l hl).turn (put2_turn _ _ _ _ _) fun l hl => off _ _ l hl
theorem LIn.high (h : LIn w F i x pre post wr) (ap : Apt q F m (pre ++ x :: post)) (hi : i < 20) (hx : ¬ i < x.h) (e : pre = P ++ A) (hA : ∀ y ∈ A, y.h ≤ i) (o : Hind F i P B c) (hb : Below wr.heap.size wr w3) {n : Int} (hn : ((nx i (A ++ x :: post)).2 : Int) = n) :
    LIn w F (i + 1) x pre post (put2 w3 B i (pt (nx i (A ++ post)).1) n) := by
  have m3 := h.mid.below hb
  have t3 : Turn (Ln F (pre ++ x :: post)) w w3 := h.turn.trans (Turn.of_below (D := fun _ => False) hb) fun _ e => e.elim
  have room3 : Room w3 x i := h.room.turn (Turn.of_below (D := fun _ => False) hb) fun _ _ => ⟨fun e => e, fun e => e⟩
  have hp : pt (nx i (A ++ post)).1 = pt (nx i (A ++ x :: post)).1 := by rw [nx_high hx hA, lon_fst]
  have m4 := m3
  rw [e, List.append_assoc, List.append_assoc] at m4
  have lv : LevR w3 i (x :: post) := by
    have := (m4.hi i (Nat.le_refl _) hi).2
    rw [← List.append_assoc] at this
    exact ⟨fun k => absurd k hx, LevR.back this⟩
  have fin := m4.relink hi o hA (ap.front e) lv (fun y hy _ => ap.far e o y hy) hn
  rw [hp]
  rw [← List.append_assoc, ← List.append_assoc, ← e] at fin
  refine ⟨?_, fin, ?_⟩
  · refine t3.trans (put2_turn _ _ _ _ _) fun a ha => .inl ?_
    unfold Ln
    rw [two_block a ha]
    exact o.of fun y hy => by rw [e]; simp [hy]
  · refine (room3.up (Nat.le_succ i)).turn (put2_turn _ _ _ _ _) fun l hl => ⟨fun k => ?_, fun k => ?_⟩ <;> rcases two_off _ k with k | k <;> (simp only at k; omega)
/-- The rounds of take below level i are done. -/
structure LOut (w : World) (F i : Nat) (x : Nd) (pre post : List Nd) (wr : World) : Prop where
  turn : Turn (Ln F (pre ++ x :: post)) w wr
  mid : Mid wr F i (pre ++ post) (pre ++ x :: post)
  room : Room wr x 0
theorem LOut.step (h : LOut w F i x pre post wr) (ap : Apt q F m (pre ++ x :: post)) (hi : i < 20) (e : pre = P ++ A) (hA : ∀ y ∈ A, y.h ≤ i) (o : Hind F i P B c) (hb : Below wr.heap.size wr w3) {n : Int} (hn : ((nx i (A ++ post)).2 : Int) = n) :
    LOut w F (i + 1) x pre post (put2 w3 B i (pt (nx i (A ++ post)).1) n) := by
  have m3 := h.mid.below hb
  have t3 : Turn (Ln F (pre ++ x :: post)) w w3 := h.turn.trans (Turn.of_below (D := fun _ => False) hb) fun _ e => e.elim
  have room3 : Room w3 x 0 := h.room.turn (Turn.of_below (D := fun _ => False) hb) fun _ _ => ⟨fun e => e, fun e => e⟩
  have m4 := m3
  rw [e, List.append_assoc, List.append_assoc] at m4
  have lv : LevR w3 i post := by
    have := (m4.hi i (Nat.le_refl _) hi).2
    rw [← List.append_assoc] at this
    exact (LevR.back this).2
  have fin := m4.relink hi o hA (ap.front e) lv (fun y hy _ => ap.far e o y (List.mem_cons_of_mem _ hy)) hn
  rw [← List.append_assoc, ← List.append_assoc, ← e] at fin
  refine ⟨?_, fin, ?_⟩
  · refine t3.trans (put2_turn _ _ _ _ _) fun a ha => .inl ?_
    unfold Ln
    rw [two_block a ha]
    exact o.of fun y hy => by rw [e]; simp [hy]
  · have xB : x.L ≠ B := ap.far e o x List.mem_cons_self
    exact room3.turn (put2_turn _ _ _ _ _) fun l hl => ⟨fun k => xB (two_block _ k), fun k => xB (two_block _ k)⟩
end
end Go.Proofs.YtopnbfhkfagemaaDoor
