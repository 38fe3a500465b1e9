/- Package chunk: an empty chunk laid in; a full one halved. -/
import Derived.Test.YteghokakjonblaaChAt
import Derived.Test.YteghokakjonblaaChInsC
namespace Go.Proofs.Yteghokakjonblaa
open Go.RowKit Go.Lib
set_option linter.unusedVariables false
/-- A row turned into another one, in its own blocks and new ones. -/
structure Step (w : World) (q : Nat) (R : Ch) (w' : World) (R' : Ch) : Prop where
  lies : Lies w' q R'
  turn : Turn (fun a => inRow q R a.block) w w'
  sub : ∀ k, inRow q R' k → inRow q R k ∨ w.heap.size ≤ k
section
variable {w w' w'' : World} {q : Nat} {R R' R'' : Ch}
theorem Step.trans (h : Step w q R w' R') (k : Step w' q R' w'' R'') : Step w q R w'' R'' :=
  ⟨k.lies, h.turn.trans k.turn fun a e => h.sub a.block e, fun n e => by
    rcases k.sub n e with x | x
    · exact h.sub n x
    · exact .inr (Nat.le_trans h.turn.size x)⟩
theorem Step.refl (h : Lies w q R) (b : Below w.heap.size w w') : Step w q R w' R := ⟨h.below b, Turn.of_below b, fun k e => .inl e⟩
theorem ne_alloc (w : World) (o : Obj) : (w.alloc o).heap.size = w.heap.size + 1 := by show (w.heap.push _).size = _; simp
theorem pw_ins {α : Type} {r : α → α → Prop} {pre post : List α} {c : α} (h : (pre ++ post).Pairwise r) (h1 : ∀ x ∈ pre, r x c) (h2 : ∀ x ∈ post, r c x) : (pre ++ c :: post).Pairwise r := by
  rw [List.pairwise_append] at h
  rw [List.pairwise_append, List.pairwise_cons]
  refine ⟨h.1, ⟨h2, h.2.1⟩, fun x hx y hy => ?_⟩
  rcases List.mem_cons.1 hy with rfl | hy
  · exact h1 x hx
  · exact h.2.2 x hx y hy
theorem ins_len {α : Type} (l : List α) (k : Nat) (x : α) (h : k ≤ l.length) : (l.take k ++ x :: l.drop k).length = l.length + 1 := by simp; omega
/-- Behind slices.Insert of one chunk the row's first cell is written. -/
theorem Lies.inserted (h : Lies w q R) {D : Addr → Prop} {w1 : World} {k : Nat} (hk : k ≤ R.cs.length) {c : Ck} {B cap : Nat} (t : Turn D w w1) (hD : ∀ a, D a → R.B = some a.block) (s : Sl w1 B 0 cap ((R.cs.map ckv).take k ++ ckv c :: (R.cs.map ckv).drop k)) (hB : R.B = some B ∨ w.heap.size < B ∧ c.b ≠ B) (ck : CkAt w1 c) (cb : w.heap.size ≤ c.b ∨ ∃ d ∈ R.cs, c.b = d.b) (ap : ∀ x ∈ R.cs, ∀ a, x.rng a → ¬ c.rng a) :
    Step w q R (w1.setCell ⟨q, 0, none⟩ (hdv (some B) (R.cs.length + 1) cap)) { R with B := some B, cap := cap, cs := R.cs.take k ++ c :: R.cs.drop k } := by
  have e1 : (R.cs.map ckv).take k ++ ckv c :: (R.cs.map ckv).drop k = (R.cs.take k ++ c :: R.cs.drop k).map ckv := by simp
  rw [e1] at s
  have hq : ∀ i, ¬ D ⟨q, i, none⟩ := fun i e => h.Bq q (hD _ e) rfl
  have mem : ∀ x ∈ R.cs.take k ++ c :: R.cs.drop k, x ∈ R.cs ∨ x = c := fun x hx => by
    rcases List.mem_append.1 hx with y | y
    · exact .inl (List.mem_of_mem_take y)
    · rcases List.mem_cons.1 y with y | y
      · exact .inr y
      · exact .inl (List.mem_of_mem_drop y)
  have ctn : ∀ x ∈ R.cs, CkAt w1 x := fun x hx => (h.ck x hx).turn t fun a ha hd => h.cB a.block (hD a hd) x hx ha.1.symm
  have cne : ∀ z, z = q ∨ R.B = some z → c.b ≠ z := fun z hz e => by
    rcases cb with y | ⟨d, hd, y⟩
    · have : z < w.heap.size := by
        rcases hz with rfl | hz
        · exact h.lt
        · exact (h.some_ z hz).lt
      omega
    · rcases hz with rfl | hz
      · exact h.cq d hd (y ▸ e)
      · exact h.cB z hz d hd (y ▸ e)
  have len := ins_len R.cs k c hk
  have st := h.setHead t hq (B := B) (cap := cap) (cs := R.cs.take k ++ c :: R.cs.drop k) s (by
      rcases hB with y | ⟨y, -⟩
      · exact h.Bq B y
      · have := h.lt; omega) (fun x hx => by
      rcases mem x hx with y | rfl
      · exact ctn x y
      · exact ck) (fun x hx => by
      rcases mem x hx with y | rfl
      · exact h.cq x y
      · exact cne q (.inl rfl)) (fun x hx => by
      rcases hB with z | ⟨z, z'⟩
      · rcases mem x hx with y | rfl
        · exact h.cB B z x y
        · exact cne B (.inr z)
      · rcases mem x hx with y | rfl
        · have := (h.ck x y).lt; omega
        · exact z') (pw_ins (by rw [List.take_append_drop]; exact h.apart) (fun x hx a ha hc => ap x (List.mem_of_mem_take hx) a ha hc) (fun x hx a hc ha => ap x (List.mem_of_mem_drop hx) a ha hc))
  rw [len] at st
  refine ⟨st.1, st.2.wide fun a e => ?_, fun z hz => ?_⟩
  · rcases e with e | e
    · exact .inr (.inl (hD a e))
    · exact .inl e
  · rcases hz with e | e | ⟨x, hx, e⟩
    · exact .inl (.inl e)
    · injection e with e
      subst e
      rcases hB with y | ⟨y, -⟩
      · exact .inl (.inr (.inl y))
      · exact .inr (Nat.le_of_lt y)
    · rcases mem x hx with y | rfl
      · exact .inl (.inr (.inr ⟨x, y, e⟩))
      · rcases cb with y | ⟨d, hd, y⟩
        · exact .inr (e ▸ y)
        · exact .inl (.inr (.inr ⟨d, hd, y ▸ e⟩))
end
set_option maxHeartbeats 1000000 in
theorem open_any (w : World) (q : Nat) (R : Ch) (h : Lies w q R) (k : Nat) (hk : k ≤ R.cs.length) (h9 : R.cs.length ≤ 1048576) :
    Calls Try.prog 33 #[.pointer (some ⟨q, 0, none⟩), .int .i64 (k : Int)] w fun e w' => e = .returned (.tuple #[.int .i64 (k : Int), .int .i64 0]) ∧ ∃ B cap c, Step w q R w' { R with B := some B, cap := cap, cs := R.cs.take k ++ c :: R.cs.drop k } ∧ c.l = [] := by
  have H := Lib.hid h
  have c0 := h.head
  have f0 := h.free 0
  have lq := h.lt
  obtain ⟨x, ex⟩ : ∃ x : Ck, x = ⟨w.heap.size, 0, 0, []⟩ := ⟨_, rfl⟩
  have xv : ckv x = .slice (some ⟨w.heap.size, 0, none⟩) 0 0 := by rw [ex]; rfl
  obtain ⟨wa, ewa⟩ : ∃ wa, wa = (w.alloc (.cells #[] 9)).alloc (.cells #[.slice (some ⟨w.heap.size, 0, none⟩) 0 0] 22) := ⟨_, rfl⟩
  have s1 : Src1 wa (w.heap.size + 1) (ckv x) := by
    have := Src1.new (w.alloc (.cells #[] 9)) (ckv x) 22 (by rw [xv]; rfl)
    rwa [ne_alloc, xv, ← ewa, ← xv] at this
  have ba : Below w.heap.size w wa := by rw [ewa]; exact ((Below.refl _ w).alloc (Nat.le_refl _) _).alloc (by rw [ne_alloc]; omega) _
  have sza : wa.heap.size = w.heap.size + 2 := by rw [ewa, ne_alloc, ne_alloc]
  have ckx : CkAt wa x := by
    have y : Sl (w.alloc (.cells #[] 9)) w.heap.size 0 0 [] := Sl.new w #[] 9 [] (by simp) (by simp) (by simp) (by simp)
    have z := y.below ((Below.refl _ _).alloc (Nat.le_refl _) (.cells #[.slice (some ⟨w.heap.size, 0, none⟩) 0 0] 22))
    rw [← ewa] at z
    rw [ex]; exact z
  have apx : ∀ y ∈ R.cs, ∀ a, y.rng a → ¬ x.rng a := fun y hy a _ e => by
    rw [ex] at e
    have := e.2
    show False
    have a1 : (0 : Nat) ≤ a.off := this.1
    have a2 : a.off < 0 + 0 := this.2
    omega
  have bx : x.b = w.heap.size := by rw [ex]
  have lx : x.l = [] := by rw [ex]
  have X := Lib.hid (And.intro s1 (And.intro ba (And.intro ckx (And.intro apx (And.intro bx (And.intro lx sza))))))
  have HK := Lib.hid (And.intro hk h9)
  rcases eB : R.B with _ | B
  · obtain ⟨e1, e2⟩ := h.none_ eB
    have k0 : k = 0 := by rw [e1] at hk; simpa using hk
    subst k0
    rw [eB, e1, e2] at c0
    replace c0 : w.cell? ⟨q, 0, none⟩ = some (.slice none 0 0) := c0
    have call := Lib.hid (insC.nil_ins X.out.1)
    rw [xv, ewa] at call
    have call2 := call
    clear call
    have E1 := Lib.hid e1
    have EB := Lib.hid eB
    have EWA := Lib.hid ewa
    have XV := Lib.hid xv
    clear h eB e1 e2 s1 ba ckx apx bx lx sza ex ewa xv hk h9
    go_enter Try.func33, Try.ntmps33
    go_wp2_with fail
    go_at_call 40
    refine call2.out.mono ?_
    rintro e w1 ⟨b', cap', rfl, sl, fr, be⟩
    rw [← EWA.out] at fr be
    have bw : Below w.heap.size w w1 := X.out.2.1.trans (be.mono (by have := X.out.2.2.2.2.2.2; omega))
    have d0 : w1.cell? ⟨q, 0, none⟩ = some (.slice none 0 0) := by rw [bw.cell lq]; exact c0
    have df : w1.frozen? ⟨q, 0, none⟩ = false := by rw [World.frozen?_of_block (bw.block _ lq)]; exact f0
    have ST : Hid (Step w q R (w1.setCell ⟨q, 0, none⟩ (hdv (some b') (R.cs.length + 1) cap')) { R with B := some b', cap := cap', cs := R.cs.take 0 ++ x :: R.cs.drop 0 }) :=
      H.out.inserted (D := fun _ => False) (Nat.zero_le _) (Turn.of_below bw) (fun _ e => e.elim) (by rw [E1.out, XV.out]; exact sl) (.inr ⟨by have := X.out.2.2.2.2.2.2; omega, by have := X.out.2.2.2.2.2.2; have := X.out.2.2.2.2.1; omega⟩) (X.out.2.2.1.below be) (.inl (by have := X.out.2.2.2.2.1; omega)) X.out.2.2.2.1
    clear sl fr be bw call2
    go_wp2_with fail
    go_ret2
    have st := ST.out
    have e0 : R.cs.length + 1 = 1 := by rw [E1.out]; rfl
    rw [e0] at st
    exact ⟨rfl, b', cap', x, st, X.out.2.2.2.2.2.1⟩
  · have s := h.some_ B eB
    rw [eB] at c0
    obtain ⟨n, en⟩ : ∃ n, n = R.cs.length := ⟨_, rfl⟩
    have call : Calls Try.prog 40 #[.slice (some ⟨B, 0, none⟩) n R.cap, .int .i64 (k : Int), .slice (some ⟨w.heap.size + 1, 0, none⟩) 1 1] wa (Ins wa B 0 R.cap (R.cs.map ckv) k (ckv x)) := by
      have := insC.any (s.below ba) s1 k (by simpa using hk) (by rw [List.length_map]; omega) (by have := s.lt; omega)
      rwa [List.length_map, ← en] at this
    replace c0 : w.cell? ⟨q, 0, none⟩ = some (.slice (some ⟨B, 0, none⟩) n R.cap) := by rw [en]; exact c0
    rw [xv, ewa] at call
    have C2 := Lib.hid call
    have EWA := Lib.hid ewa
    have XV := Lib.hid xv
    have EB := Lib.hid eB
    have EN := Lib.hid en
    have b1 := s.big
    have b2 := s.len
    rw [List.length_map, ← en] at b2
    clear h s call eB s1 ba ckx apx bx lx sza ex ewa xv hk h9 en
    go_enter Try.func33, Try.ntmps33
    go_wp2_with fail
    go_at_call 40
    with_reducible refine C2.out.mono ?_
    rintro e w1 ⟨b', off', cap', rfl, sl, alt⟩
    rw [← EWA.out, List.length_map, ← EN.out] at alt
    rw [List.length_map, ← EN.out]
    have o0 : off' = 0 := by rcases alt with ⟨_, _, e, _⟩ | ⟨_, _, e, _⟩ <;> exact e
    subst o0
    have sza := X.out.2.2.2.2.2.2
    have tw : Turn (fun a => Rng B 0 R.cap a) w w1 := by
      refine (Turn.of_below (D := fun a => Rng B 0 R.cap a) X.out.2.1).trans (E := fun a => Rng B 0 R.cap a) ?_ fun a e => .inl e
      rcases alt with ⟨_, _, _, _, t⟩ | ⟨_, _, _, t⟩
      · exact t
      · exact Turn.of_below t
    have Bq := H.out.Bq B EB.out
    have d0 : w1.cell? ⟨q, 0, none⟩ = some (.slice (some ⟨B, 0, none⟩) n R.cap) := by rw [tw.cell _ lq (fun e => Bq e.1.symm)]; exact c0
    have df : w1.frozen? ⟨q, 0, none⟩ = false := by rw [tw.frozen _ lq]; exact f0
    have Blt := (H.out.some_ B EB.out).lt
    have ST : Hid (Step w q R (w1.setCell ⟨q, 0, none⟩ (hdv (some b') (R.cs.length + 1) cap')) { R with B := some b', cap := cap', cs := R.cs.take k ++ x :: R.cs.drop k }) := by
      refine H.out.inserted HK.out.1 tw (fun a e => by rw [EB.out, e.1]) (by rw [XV.out]; exact sl) ?_ ?_ (.inl (by have := X.out.2.2.2.2.1; omega)) X.out.2.2.2.1
      · rcases alt with ⟨_, e, _⟩ | ⟨_, e, _⟩
        · exact .inl (by rw [e]; exact EB.out)
        · exact .inr ⟨by omega, by have := X.out.2.2.2.2.1; omega⟩
      · refine X.out.2.2.1.turn (D := fun a => Rng B 0 R.cap a) ?_ fun a ha e => ?_
        · rcases alt with ⟨_, _, _, _, t⟩ | ⟨_, _, _, t⟩
          · exact t
          · exact Turn.of_below t
        · have a1 := ha.1
          have a2 := e.1
          have := X.out.2.2.2.2.1
          omega
    rw [← EN.out] at ST
    clear sl alt tw Bq C2
    go_wp2_with fail
    go_ret2
    exact ⟨rfl, b', cap', x, ST.out, X.out.2.2.2.2.2.1⟩
end Go.Proofs.Yteghokakjonblaa
