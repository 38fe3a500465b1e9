/- Package value: isInOrder, May. -/
import Derived.Test.YtgokjdlemfaagaaVlUni
import Derived.Test.YtgokjdlemfaagaaVlSize
namespace Go.Proofs.Ytgokjdlemfaagaa
open Go.RowKit
set_option linter.unusedVariables false
/-- What is asked of a value's sizes (each list, each string), and of plane.May at its places. -/
structure VlOk (pt : Nat × Nat → Bool) (x : Vl) : Prop where
  list : x.list.length ≤ 1048576
  fields : x.fields.length ≤ 1048576
  scores : x.scores.length ≤ 1048576
  points : x.points.length ≤ 1048576
  text : x.text.size ≤ 1099511627776
  size : x.size < 1099511627776
  names : ∀ e ∈ x.scores, e.1.size ≤ maxLen
  may : ∀ e ∈ x.points, ∀ w, Calls Try.prog 44 #[.complex .f64 e.2.1 e.2.2] w fun r w' => r = .returned (.bool (pt e.2)) ∧ Below w.heap.size w w'
theorem rise_made {W W' : World} {B : Nat} {f : Value} {xs : List ByteArray} (m : Made W W' B f xs) (hw : B ≤ W.heap.size) (hs : W.heap.size ≤ W'.heap.size) :
    Calls Try.prog 30 #[f] W' fun e w' => e = .returned (.bool (Vl.rise xs)) ∧ Below W'.heap.size W' w' := by
  obtain ⟨U, g, u⟩ := m
  exact rise_any W' U f xs g fun k q => by
    rcases u k q with r | r
    · exact Nat.lt_of_lt_of_le r (Nat.le_trans hw hs)
    · exact r.2
theorem short_made {W W' : World} {B : Nat} {f : Value} {xs : List ByteArray} (m : Made W W' B f xs) (hw : B ≤ W.heap.size) (hs : W.heap.size ≤ W'.heap.size) :
    Calls Try.prog 15 #[f] W' fun e w' => e = .returned (.bool (Vl.short xs)) ∧ Below W'.heap.size W' w' := by
  obtain ⟨U, g, u⟩ := m
  exact short_any W' U f xs g fun k q => by
    rcases u k q with r | r
    · exact Nat.lt_of_lt_of_le r (Nat.le_trans hw hs)
    · exact r.2
set_option maxRecDepth 20000 in
set_option maxHeartbeats 2000000 in
/-- isInOrder. -/
theorem order_any (pt : Nat × Nat → Bool) (w : World) (B : Nat) (v : Value) (x : Vl) (h : Vr w B v x) (ok : VlOk pt x) (hB : B ≤ w.heap.size) :
    Calls Try.prog 14 #[v] w fun e w' => e = .returned (.bool (x.inOrder pt)) ∧ Below w.heap.size w w' := by
  have al : ∀ o, Below w.heap.size w (w.alloc o) := fun o => (Below.refl _ w).alloc (Nat.le_refl _) o
  have NM := fun W (b : Below w.heap.size w W) => names_any W B v x (h.below (b.mono hB)) (Nat.le_trans hB b.size) ok.fields ok.scores ok.points
  obtain ⟨A2, c2, A3, c3, A4, c4, A5, c5, rfl, h1, h2, h3, h4⟩ := h.shows
  have SO := fun W (b : Below w.heap.size w W) => sorted_any W B _ c4 A4 x.scores rfl ok.scores (h3.below (b.mono hB)) (Nat.le_trans hB b.size)
  have UN := fun W (b : Below w.heap.size w W) => unique_any W B _ c4 A4 x.scores rfl ok.scores (h3.below (b.mono hB)) (Nat.le_trans hB b.size) ok.names
  have PO := fun W (b : Below w.heap.size w W) => points_any pt W B _ c5 A5 x.points rfl ok.points (h4.below (b.mono hB)) (Nat.le_trans hB b.size) ok.may
  have RI := fun (W W' : World) (f : Value) (m : Made W W' B f x.names) (hw : B ≤ W.heap.size) (hs : W.heap.size ≤ W'.heap.size) => rise_made m hw hs
  have hio : x.inOrder pt = if x.kind = 4 then Vl.sorted x.scores && Vl.unique x.scores else if x.kind = 5 then (x.points.all fun p => pt p.2) && Vl.rise x.names else if x.kind = 3 then Vl.rise x.names else true := rfl
  rw [hio]
  clear hio h
  obtain ⟨nm, hnm⟩ : ∃ nm, x.names = nm := ⟨_, rfl⟩
  simp only [hnm] at NM RI ⊢
  obtain ⟨rs, hrs⟩ : ∃ r, Vl.rise nm = r := ⟨_, rfl⟩
  simp only [hrs] at RI ⊢
  obtain ⟨so, hso⟩ : ∃ r, Vl.sorted x.scores = r := ⟨_, rfl⟩
  obtain ⟨un, hun⟩ : ∃ r, Vl.unique x.scores = r := ⟨_, rfl⟩
  obtain ⟨po, hpo⟩ : ∃ r, (x.points.all fun p => pt p.2) = r := ⟨_, rfl⟩
  simp only [hso, hun, hpo] at SO UN PO ⊢
  clear ok hnm hrs hso hun hpo h1 h2 h3 h4
  obtain ⟨kd, s, ls, fs, ss, ps⟩ := x
  simp only at NM SO UN PO ⊢
  generalize ls.length = n2 at *
  generalize fs.length = n3 at *
  generalize ss.length = n4 at *
  generalize ps.length = n5 at *
  rcases kind_cases kd with rfl | rfl | rfl | rfl | rfl | ⟨k1, k2, k3, k4, k5⟩
  · go_enter Try.func14, Try.ntmps14
    go_wp2_with fail
    go_ret
    exact ⟨rfl, al _⟩
  · go_enter Try.func14, Try.ntmps14
    go_wp2_with fail
    go_ret
    exact ⟨rfl, al _⟩
  · go_enter Try.func14, Try.ntmps14
    go_wp2_with (go_at_call 31; refine (NM _ (al _)).mono ?_; rintro e w1 ⟨f, rfl, hb1, hm⟩)
    have b1 := below_then (al _) hb1
    go_wp2_with (go_at_call 30; refine (RI _ _ _ hm (Nat.le_trans hB (al _).size) hb1.size).mono ?_; rintro e w2 ⟨rfl, hb2⟩)
    go_ret
    exact ⟨rfl, below_then b1 hb2⟩
  · cases so
    · go_enter Try.func14, Try.ntmps14
      go_wp2_with (go_at_call 26; refine (SO _ (al _)).mono ?_; rintro e w1 ⟨rfl, hb1⟩)
      go_ret
      exact ⟨rfl, below_then (al _) hb1⟩
    · go_enter Try.func14, Try.ntmps14
      have M := fun (v0 v1 v2 v3 v4 v5 : Value) (t : TypeId) (w1 : World) (hb : Below (w.alloc (.cells #[v0, v1, v2, v3, v4, v5] t)).heap.size (w.alloc (.cells #[v0, v1, v2, v3, v4, v5] t)) w1) => ((Blk.new w #[v0, v1, v2, v3, v4, v5] t).below hb).six
      go_wp2_with (go_at_call 26; refine (SO _ (al _)).mono ?_; rintro e w1 ⟨rfl, hb1⟩; obtain ⟨q0, q1, q2, q3, q4, q5⟩ := M _ _ _ _ _ _ _ w1 hb1)
      have b1 := below_then (al _) hb1
      go_wp2_with (go_at_call 28; refine (UN _ b1).mono ?_; rintro e w2 ⟨rfl, hb2⟩)
      go_ret
      exact ⟨rfl, below_then b1 hb2⟩
  · cases po
    · go_enter Try.func14, Try.ntmps14
      go_wp2_with (go_at_call 29; refine (PO _ (al _)).mono ?_; rintro e w1 ⟨rfl, hb1⟩)
      go_ret
      exact ⟨rfl, below_then (al _) hb1⟩
    · go_enter Try.func14, Try.ntmps14
      have M := fun (v0 v1 v2 v3 v4 v5 : Value) (t : TypeId) (w1 : World) (hb : Below (w.alloc (.cells #[v0, v1, v2, v3, v4, v5] t)).heap.size (w.alloc (.cells #[v0, v1, v2, v3, v4, v5] t)) w1) => ((Blk.new w #[v0, v1, v2, v3, v4, v5] t).below hb).six
      go_wp2_with (go_at_call 29; refine (PO _ (al _)).mono ?_; rintro e w1 ⟨rfl, hb1⟩; obtain ⟨q0, q1, q2, q3, q4, q5⟩ := M _ _ _ _ _ _ _ w1 hb1)
      have b1 := below_then (al _) hb1
      go_wp2_with (go_at_call 31; refine (NM _ b1).mono ?_; rintro e w2 ⟨f, rfl, hb2, hm⟩)
      have b2 := below_then b1 hb2
      go_wp2_with (go_at_call 30; refine (RI _ _ _ hm (Nat.le_trans hB b1.size) hb2.size).mono ?_; rintro e w3 ⟨rfl, hb3⟩)
      go_ret
      exact ⟨rfl, below_then b2 hb3⟩
  · rw [if_neg (ne_of_beq_false k4), if_neg (ne_of_beq_false k5), if_neg (ne_of_beq_false k3)]
    go_enter Try.func14, Try.ntmps14
    go_wp2_with fail
    go_ret
    exact ⟨rfl, al _⟩
/-! May -/
/-- The worlds of May: what was stays, and the box with the value holds it. -/
def MSt (w W : World) (cs : Array Value) : Prop := Below w.heap.size w W ∧ w.heap.size < W.heap.size ∧ Blk W w.heap.size cs 29
theorem MSt.next {w W W' : World} {cs : Array Value} (h : MSt w W cs) (hb : Below W.heap.size W W') : MSt w W' cs := ⟨below_then h.1 hb, Nat.lt_of_lt_of_le h.2.1 hb.size, h.2.2.below hb⟩
def Six (W : World) (b : Nat) (v0 v1 v2 v3 v4 v5 : Value) : Prop := W.cell? ⟨b, 0, none⟩ = some v0 ∧ W.cell? ⟨b, 1, none⟩ = some v1 ∧ W.cell? ⟨b, 2, none⟩ = some v2 ∧ W.cell? ⟨b, 3, none⟩ = some v3 ∧ W.cell? ⟨b, 4, none⟩ = some v4 ∧ W.cell? ⟨b, 5, none⟩ = some v5
theorem MSt.six {w W : World} {v0 v1 v2 v3 v4 v5 : Value} (h : MSt w W #[v0, v1, v2, v3, v4, v5]) : Six W w.heap.size v0 v1 v2 v3 v4 v5 := h.2.2.six
/-- What is asked of May's callees, at a value that is written out; what they answer. -/
structure MayOk (w : World) (kd : Int) (s : ByteArray) (v2 v3 v4 v5 : Value) (pu : Bool) (L : Nat) (io sh : Bool) (sz : Nat) : Prop where
  pure : ∀ W, MSt w W #[.int .i64 kd, .string s, v2, v3, v4, v5] → Calls Try.prog 13 #[.agg #[.int .i64 kd, .string s, v2, v3, v4, v5]] W fun e w' => e = .returned (.bool pu) ∧ MSt w w' #[.int .i64 kd, .string s, v2, v3, v4, v5] ∧ Six w' w.heap.size (.int .i64 kd) (.string s) v2 v3 v4 v5
  len : ∀ W, MSt w W #[.int .i64 kd, .string s, v2, v3, v4, v5] → Calls Try.prog 7 #[.agg #[.int .i64 kd, .string s, v2, v3, v4, v5]] W fun e w' => e = .returned (.int .i64 (L : Int)) ∧ MSt w w' #[.int .i64 kd, .string s, v2, v3, v4, v5] ∧ Six w' w.heap.size (.int .i64 kd) (.string s) v2 v3 v4 v5
  order : ∀ W, MSt w W #[.int .i64 kd, .string s, v2, v3, v4, v5] → Calls Try.prog 14 #[.agg #[.int .i64 kd, .string s, v2, v3, v4, v5]] W fun e w' => e = .returned (.bool io) ∧ MSt w w' #[.int .i64 kd, .string s, v2, v3, v4, v5] ∧ Six w' w.heap.size (.int .i64 kd) (.string s) v2 v3 v4 v5
  texts : ∀ W, MSt w W #[.int .i64 kd, .string s, v2, v3, v4, v5] → Calls Try.prog 16 #[.agg #[.int .i64 kd, .string s, v2, v3, v4, v5]] W fun e w' => ∃ f, e = .returned f ∧
    Calls Try.prog 15 #[f] w' fun e w' => e = .returned (.bool sh) ∧ MSt w w' #[.int .i64 kd, .string s, v2, v3, v4, v5] ∧ Six w' w.heap.size (.int .i64 kd) (.string s) v2 v3 v4 v5
  size : (kd = 1 ∨ kd = 2 ∨ kd = 3 ∨ kd = 4 ∨ kd = 5) → ∀ W, MSt w W #[.int .i64 kd, .string s, v2, v3, v4, v5] → Calls Try.prog 8 #[.agg #[.int .i64 kd, .string s, v2, v3, v4, v5]] W fun e w' => e = .returned (.int .i64 (sz : Int)) ∧ MSt w w' #[.int .i64 kd, .string s, v2, v3, v4, v5] ∧ Six w' w.heap.size (.int .i64 kd) (.string s) v2 v3 v4 v5
set_option maxRecDepth 20000 in
set_option maxHeartbeats 1000000 in
theorem may_impure (w : World) (kd : Int) (io sh : Bool) (s : ByteArray) (A2 A3 A4 A5 : Option Addr) (n2 c2 n3 c3 n4 c4 n5 c5 L sz : Nat) (ok : MayOk w kd s (.slice A2 n2 c2) (.slice A3 n3 c3) (.slice A4 n4 c4) (.slice A5 n5 c5) false L io sh sz) :
    Calls Try.prog 6 #[.agg #[.int .i64 kd, .string s, .slice A2 n2 c2, .slice A3 n3 c3, .slice A4 n4 c4, .slice A5 n5 c5]] w fun e w' => e = .returned (.bool false) ∧ Below w.heap.size w w' := by
  obtain ⟨O1, O2, O3, O4, O5⟩ := ok
  have st0 : MSt w (w.alloc (.cells #[.int .i64 kd, .string s, .slice A2 n2 c2, .slice A3 n3 c3, .slice A4 n4 c4, .slice A5 n5 c5] 29)) #[.int .i64 kd, .string s, .slice A2 n2 c2, .slice A3 n3 c3, .slice A4 n4 c4, .slice A5 n5 c5] := ⟨(Below.refl _ w).alloc (Nat.le_refl _) _, by simp, Blk.new w _ _⟩
  go_enter Try.func6, Try.ntmps6
  go_wp2_with (first
    | (go_at_call 13; refine (O1 _ (by assumption)).mono ?_; rintro e w' ⟨rfl, st, q0, q1, q2, q3, q4, q5⟩)
    | (go_at_call 7; refine (O2 _ (by assumption)).mono ?_; rintro e w' ⟨rfl, st, q0, q1, q2, q3, q4, q5⟩)
    | (go_at_call 14; refine (O3 _ (by assumption)).mono ?_; rintro e w' ⟨rfl, st, q0, q1, q2, q3, q4, q5⟩)
    | (go_at_call 16; refine (O4 _ (by assumption)).mono ?_; rintro e w' ⟨f, rfl, hsh⟩)
    | (go_at_call 15; refine hsh.mono ?_; rintro e w' ⟨rfl, st, q0, q1, q2, q3, q4, q5⟩)
    | (go_at_call 8; refine (O5 _ (by assumption)).mono ?_; rintro e w' ⟨rfl, st, q0, q1, q2, q3, q4, q5⟩))
  go_ret
  exact ⟨rfl, st.1⟩
set_option maxRecDepth 20000 in
set_option maxHeartbeats 1000000 in
theorem may_other (w : World) (kd : Int) (io sh : Bool) (s : ByteArray) (A2 A3 A4 A5 : Option Addr) (n2 c2 n3 c3 n4 c4 n5 c5 L sz : Nat) (h1 : (kd == 1) = false) (h2 : (kd == 2) = false) (h3 : (kd == 3) = false) (h4 : (kd == 4) = false) (h5 : (kd == 5) = false) (ok : MayOk w kd s (.slice A2 n2 c2) (.slice A3 n3 c3) (.slice A4 n4 c4) (.slice A5 n5 c5) true L io sh sz) :
    Calls Try.prog 6 #[.agg #[.int .i64 kd, .string s, .slice A2 n2 c2, .slice A3 n3 c3, .slice A4 n4 c4, .slice A5 n5 c5]] w fun e w' => e = .returned (.bool false) ∧ Below w.heap.size w w' := by
  obtain ⟨O1, O2, O3, O4, O5⟩ := ok
  have st0 : MSt w (w.alloc (.cells #[.int .i64 kd, .string s, .slice A2 n2 c2, .slice A3 n3 c3, .slice A4 n4 c4, .slice A5 n5 c5] 29)) #[.int .i64 kd, .string s, .slice A2 n2 c2, .slice A3 n3 c3, .slice A4 n4 c4, .slice A5 n5 c5] := ⟨(Below.refl _ w).alloc (Nat.le_refl _) _, by simp, Blk.new w _ _⟩
  go_enter Try.func6, Try.ntmps6
  go_wp2_with (first
    | (go_at_call 13; refine (O1 _ (by assumption)).mono ?_; rintro e w' ⟨rfl, st, q0, q1, q2, q3, q4, q5⟩)
    | (go_at_call 7; refine (O2 _ (by assumption)).mono ?_; rintro e w' ⟨rfl, st, q0, q1, q2, q3, q4, q5⟩)
    | (go_at_call 14; refine (O3 _ (by assumption)).mono ?_; rintro e w' ⟨rfl, st, q0, q1, q2, q3, q4, q5⟩)
    | (go_at_call 16; refine (O4 _ (by assumption)).mono ?_; rintro e w' ⟨f, rfl, hsh⟩)
    | (go_at_call 15; refine hsh.mono ?_; rintro e w' ⟨rfl, st, q0, q1, q2, q3, q4, q5⟩)
    | (go_at_call 8; refine (O5 _ (by assumption)).mono ?_; rintro e w' ⟨rfl, st, q0, q1, q2, q3, q4, q5⟩))
  go_ret
  exact ⟨rfl, st.1⟩
set_option maxRecDepth 20000 in
set_option maxHeartbeats 1000000 in
theorem may2_few (w : World) (io sh : Bool) (s : ByteArray) (A2 A3 A4 A5 : Option Addr) (n2 c2 n3 c3 n4 c4 n5 c5 L sz : Nat) (hL : (L : Int) < 1) (ok : MayOk w 2 s (.slice A2 n2 c2) (.slice A3 n3 c3) (.slice A4 n4 c4) (.slice A5 n5 c5) true L io sh sz) :
    Calls Try.prog 6 #[.agg #[.int .i64 2, .string s, .slice A2 n2 c2, .slice A3 n3 c3, .slice A4 n4 c4, .slice A5 n5 c5]] w fun e w' => e = .returned (.bool false) ∧ Below w.heap.size w w' := by
  obtain ⟨O1, O2, O3, O4, O5⟩ := ok
  replace O5 := O5 (by decide)
  have st0 : MSt w (w.alloc (.cells #[.int .i64 2, .string s, .slice A2 n2 c2, .slice A3 n3 c3, .slice A4 n4 c4, .slice A5 n5 c5] 29)) #[.int .i64 2, .string s, .slice A2 n2 c2, .slice A3 n3 c3, .slice A4 n4 c4, .slice A5 n5 c5] := ⟨(Below.refl _ w).alloc (Nat.le_refl _) _, by simp, Blk.new w _ _⟩
  go_enter Try.func6, Try.ntmps6
  go_wp2_with (first
    | (go_at_call 13; refine (O1 _ (by assumption)).mono ?_; rintro e w' ⟨rfl, st, q0, q1, q2, q3, q4, q5⟩)
    | (go_at_call 7; refine (O2 _ (by assumption)).mono ?_; rintro e w' ⟨rfl, st, q0, q1, q2, q3, q4, q5⟩)
    | (go_at_call 14; refine (O3 _ (by assumption)).mono ?_; rintro e w' ⟨rfl, st, q0, q1, q2, q3, q4, q5⟩)
    | (go_at_call 16; refine (O4 _ (by assumption)).mono ?_; rintro e w' ⟨f, rfl, hsh⟩)
    | (go_at_call 15; refine hsh.mono ?_; rintro e w' ⟨rfl, st, q0, q1, q2, q3, q4, q5⟩)
    | (go_at_call 8; refine (O5 _ (by assumption)).mono ?_; rintro e w' ⟨rfl, st, q0, q1, q2, q3, q4, q5⟩))
  go_ret
  exact ⟨rfl, st.1⟩
set_option maxRecDepth 20000 in
set_option maxHeartbeats 1000000 in
theorem may2_many (w : World) (io sh : Bool) (s : ByteArray) (A2 A3 A4 A5 : Option Addr) (n2 c2 n3 c3 n4 c4 n5 c5 L sz : Nat) (hL : 1000 < (L : Int)) (hL2 : 1 ≤ (L : Int)) (ok : MayOk w 2 s (.slice A2 n2 c2) (.slice A3 n3 c3) (.slice A4 n4 c4) (.slice A5 n5 c5) true L io sh sz) :
    Calls Try.prog 6 #[.agg #[.int .i64 2, .string s, .slice A2 n2 c2, .slice A3 n3 c3, .slice A4 n4 c4, .slice A5 n5 c5]] w fun e w' => e = .returned (.bool false) ∧ Below w.heap.size w w' := by
  obtain ⟨O1, O2, O3, O4, O5⟩ := ok
  replace O5 := O5 (by decide)
  have st0 : MSt w (w.alloc (.cells #[.int .i64 2, .string s, .slice A2 n2 c2, .slice A3 n3 c3, .slice A4 n4 c4, .slice A5 n5 c5] 29)) #[.int .i64 2, .string s, .slice A2 n2 c2, .slice A3 n3 c3, .slice A4 n4 c4, .slice A5 n5 c5] := ⟨(Below.refl _ w).alloc (Nat.le_refl _) _, by simp, Blk.new w _ _⟩
  go_enter Try.func6, Try.ntmps6
  go_wp2_with (first
    | (go_at_call 13; refine (O1 _ (by assumption)).mono ?_; rintro e w' ⟨rfl, st, q0, q1, q2, q3, q4, q5⟩)
    | (go_at_call 7; refine (O2 _ (by assumption)).mono ?_; rintro e w' ⟨rfl, st, q0, q1, q2, q3, q4, q5⟩)
    | (go_at_call 14; refine (O3 _ (by assumption)).mono ?_; rintro e w' ⟨rfl, st, q0, q1, q2, q3, q4, q5⟩)
    | (go_at_call 16; refine (O4 _ (by assumption)).mono ?_; rintro e w' ⟨f, rfl, hsh⟩)
    | (go_at_call 15; refine hsh.mono ?_; rintro e w' ⟨rfl, st, q0, q1, q2, q3, q4, q5⟩)
    | (go_at_call 8; refine (O5 _ (by assumption)).mono ?_; rintro e w' ⟨rfl, st, q0, q1, q2, q3, q4, q5⟩))
  go_ret
  exact ⟨rfl, st.1⟩
set_option maxRecDepth 20000 in
set_option maxHeartbeats 1000000 in
theorem may2_order (w : World) (sh : Bool) (s : ByteArray) (A2 A3 A4 A5 : Option Addr) (n2 c2 n3 c3 n4 c4 n5 c5 L sz : Nat) (hL : (L : Int) ≤ 1000) (hL2 : 1 ≤ (L : Int)) (ok : MayOk w 2 s (.slice A2 n2 c2) (.slice A3 n3 c3) (.slice A4 n4 c4) (.slice A5 n5 c5) true L false sh sz) :
    Calls Try.prog 6 #[.agg #[.int .i64 2, .string s, .slice A2 n2 c2, .slice A3 n3 c3, .slice A4 n4 c4, .slice A5 n5 c5]] w fun e w' => e = .returned (.bool false) ∧ Below w.heap.size w w' := by
  obtain ⟨O1, O2, O3, O4, O5⟩ := ok
  replace O5 := O5 (by decide)
  have st0 : MSt w (w.alloc (.cells #[.int .i64 2, .string s, .slice A2 n2 c2, .slice A3 n3 c3, .slice A4 n4 c4, .slice A5 n5 c5] 29)) #[.int .i64 2, .string s, .slice A2 n2 c2, .slice A3 n3 c3, .slice A4 n4 c4, .slice A5 n5 c5] := ⟨(Below.refl _ w).alloc (Nat.le_refl _) _, by simp, Blk.new w _ _⟩
  go_enter Try.func6, Try.ntmps6
  go_wp2_with (first
    | (go_at_call 13; refine (O1 _ (by assumption)).mono ?_; rintro e w' ⟨rfl, st, q0, q1, q2, q3, q4, q5⟩)
    | (go_at_call 7; refine (O2 _ (by assumption)).mono ?_; rintro e w' ⟨rfl, st, q0, q1, q2, q3, q4, q5⟩)
    | (go_at_call 14; refine (O3 _ (by assumption)).mono ?_; rintro e w' ⟨rfl, st, q0, q1, q2, q3, q4, q5⟩)
    | (go_at_call 16; refine (O4 _ (by assumption)).mono ?_; rintro e w' ⟨f, rfl, hsh⟩)
    | (go_at_call 15; refine hsh.mono ?_; rintro e w' ⟨rfl, st, q0, q1, q2, q3, q4, q5⟩)
    | (go_at_call 8; refine (O5 _ (by assumption)).mono ?_; rintro e w' ⟨rfl, st, q0, q1, q2, q3, q4, q5⟩))
  go_ret
  exact ⟨rfl, st.1⟩
set_option maxRecDepth 20000 in
set_option maxHeartbeats 1000000 in
theorem may2_long (w : World) (s : ByteArray) (A2 A3 A4 A5 : Option Addr) (n2 c2 n3 c3 n4 c4 n5 c5 L sz : Nat) (hL : (L : Int) ≤ 1000) (hL2 : 1 ≤ (L : Int)) (ok : MayOk w 2 s (.slice A2 n2 c2) (.slice A3 n3 c3) (.slice A4 n4 c4) (.slice A5 n5 c5) true L true false sz) :
    Calls Try.prog 6 #[.agg #[.int .i64 2, .string s, .slice A2 n2 c2, .slice A3 n3 c3, .slice A4 n4 c4, .slice A5 n5 c5]] w fun e w' => e = .returned (.bool false) ∧ Below w.heap.size w w' := by
  obtain ⟨O1, O2, O3, O4, O5⟩ := ok
  replace O5 := O5 (by decide)
  have st0 : MSt w (w.alloc (.cells #[.int .i64 2, .string s, .slice A2 n2 c2, .slice A3 n3 c3, .slice A4 n4 c4, .slice A5 n5 c5] 29)) #[.int .i64 2, .string s, .slice A2 n2 c2, .slice A3 n3 c3, .slice A4 n4 c4, .slice A5 n5 c5] := ⟨(Below.refl _ w).alloc (Nat.le_refl _) _, by simp, Blk.new w _ _⟩
  go_enter Try.func6, Try.ntmps6
  go_wp2_with (first
    | (go_at_call 13; refine (O1 _ (by assumption)).mono ?_; rintro e w' ⟨rfl, st, q0, q1, q2, q3, q4, q5⟩)
    | (go_at_call 7; refine (O2 _ (by assumption)).mono ?_; rintro e w' ⟨rfl, st, q0, q1, q2, q3, q4, q5⟩)
    | (go_at_call 14; refine (O3 _ (by assumption)).mono ?_; rintro e w' ⟨rfl, st, q0, q1, q2, q3, q4, q5⟩)
    | (go_at_call 16; refine (O4 _ (by assumption)).mono ?_; rintro e w' ⟨f, rfl, hsh⟩)
    | (go_at_call 15; refine hsh.mono ?_; rintro e w' ⟨rfl, st, q0, q1, q2, q3, q4, q5⟩)
    | (go_at_call 8; refine (O5 _ (by assumption)).mono ?_; rintro e w' ⟨rfl, st, q0, q1, q2, q3, q4, q5⟩))
  go_ret
  exact ⟨rfl, st.1⟩
set_option maxRecDepth 20000 in
set_option maxHeartbeats 1000000 in
theorem may2_ok (w : World) (s : ByteArray) (A2 A3 A4 A5 : Option Addr) (n2 c2 n3 c3 n4 c4 n5 c5 L sz : Nat) (hL : (L : Int) ≤ 1000) (hL2 : 1 ≤ (L : Int)) (ok : MayOk w 2 s (.slice A2 n2 c2) (.slice A3 n3 c3) (.slice A4 n4 c4) (.slice A5 n5 c5) true L true true sz) :
    Calls Try.prog 6 #[.agg #[.int .i64 2, .string s, .slice A2 n2 c2, .slice A3 n3 c3, .slice A4 n4 c4, .slice A5 n5 c5]] w fun e w' => e = .returned (.bool (decide ((sz : Int) ≤ 262144))) ∧ Below w.heap.size w w' := by
  obtain ⟨O1, O2, O3, O4, O5⟩ := ok
  replace O5 := O5 (by decide)
  have st0 : MSt w (w.alloc (.cells #[.int .i64 2, .string s, .slice A2 n2 c2, .slice A3 n3 c3, .slice A4 n4 c4, .slice A5 n5 c5] 29)) #[.int .i64 2, .string s, .slice A2 n2 c2, .slice A3 n3 c3, .slice A4 n4 c4, .slice A5 n5 c5] := ⟨(Below.refl _ w).alloc (Nat.le_refl _) _, by simp, Blk.new w _ _⟩
  go_enter Try.func6, Try.ntmps6
  go_wp2_with (first
    | (go_at_call 13; refine (O1 _ (by assumption)).mono ?_; rintro e w' ⟨rfl, st, q0, q1, q2, q3, q4, q5⟩)
    | (go_at_call 7; refine (O2 _ (by assumption)).mono ?_; rintro e w' ⟨rfl, st, q0, q1, q2, q3, q4, q5⟩)
    | (go_at_call 14; refine (O3 _ (by assumption)).mono ?_; rintro e w' ⟨rfl, st, q0, q1, q2, q3, q4, q5⟩)
    | (go_at_call 16; refine (O4 _ (by assumption)).mono ?_; rintro e w' ⟨f, rfl, hsh⟩)
    | (go_at_call 15; refine hsh.mono ?_; rintro e w' ⟨rfl, st, q0, q1, q2, q3, q4, q5⟩)
    | (go_at_call 8; refine (O5 _ (by assumption)).mono ?_; rintro e w' ⟨rfl, st, q0, q1, q2, q3, q4, q5⟩))
  go_ret
  exact ⟨rfl, st.1⟩
set_option maxRecDepth 20000 in
set_option maxHeartbeats 1000000 in
theorem may3_few (w : World) (io sh : Bool) (s : ByteArray) (A2 A3 A4 A5 : Option Addr) (n2 c2 n3 c3 n4 c4 n5 c5 L sz : Nat) (hL : (L : Int) < 1) (ok : MayOk w 3 s (.slice A2 n2 c2) (.slice A3 n3 c3) (.slice A4 n4 c4) (.slice A5 n5 c5) true L io sh sz) :
    Calls Try.prog 6 #[.agg #[.int .i64 3, .string s, .slice A2 n2 c2, .slice A3 n3 c3, .slice A4 n4 c4, .slice A5 n5 c5]] w fun e w' => e = .returned (.bool false) ∧ Below w.heap.size w w' := by
  obtain ⟨O1, O2, O3, O4, O5⟩ := ok
  replace O5 := O5 (by decide)
  have st0 : MSt w (w.alloc (.cells #[.int .i64 3, .string s, .slice A2 n2 c2, .slice A3 n3 c3, .slice A4 n4 c4, .slice A5 n5 c5] 29)) #[.int .i64 3, .string s, .slice A2 n2 c2, .slice A3 n3 c3, .slice A4 n4 c4, .slice A5 n5 c5] := ⟨(Below.refl _ w).alloc (Nat.le_refl _) _, by simp, Blk.new w _ _⟩
  go_enter Try.func6, Try.ntmps6
  go_wp2_with (first
    | (go_at_call 13; refine (O1 _ (by assumption)).mono ?_; rintro e w' ⟨rfl, st, q0, q1, q2, q3, q4, q5⟩)
    | (go_at_call 7; refine (O2 _ (by assumption)).mono ?_; rintro e w' ⟨rfl, st, q0, q1, q2, q3, q4, q5⟩)
    | (go_at_call 14; refine (O3 _ (by assumption)).mono ?_; rintro e w' ⟨rfl, st, q0, q1, q2, q3, q4, q5⟩)
    | (go_at_call 16; refine (O4 _ (by assumption)).mono ?_; rintro e w' ⟨f, rfl, hsh⟩)
    | (go_at_call 15; refine hsh.mono ?_; rintro e w' ⟨rfl, st, q0, q1, q2, q3, q4, q5⟩)
    | (go_at_call 8; refine (O5 _ (by assumption)).mono ?_; rintro e w' ⟨rfl, st, q0, q1, q2, q3, q4, q5⟩))
  go_ret
  exact ⟨rfl, st.1⟩
set_option maxRecDepth 20000 in
set_option maxHeartbeats 1000000 in
theorem may3_many (w : World) (io sh : Bool) (s : ByteArray) (A2 A3 A4 A5 : Option Addr) (n2 c2 n3 c3 n4 c4 n5 c5 L sz : Nat) (hL : 1000 < (L : Int)) (hL2 : 1 ≤ (L : Int)) (ok : MayOk w 3 s (.slice A2 n2 c2) (.slice A3 n3 c3) (.slice A4 n4 c4) (.slice A5 n5 c5) true L io sh sz) :
    Calls Try.prog 6 #[.agg #[.int .i64 3, .string s, .slice A2 n2 c2, .slice A3 n3 c3, .slice A4 n4 c4, .slice A5 n5 c5]] w fun e w' => e = .returned (.bool false) ∧ Below w.heap.size w w' := by
  obtain ⟨O1, O2, O3, O4, O5⟩ := ok
  replace O5 := O5 (by decide)
  have st0 : MSt w (w.alloc (.cells #[.int .i64 3, .string s, .slice A2 n2 c2, .slice A3 n3 c3, .slice A4 n4 c4, .slice A5 n5 c5] 29)) #[.int .i64 3, .string s, .slice A2 n2 c2, .slice A3 n3 c3, .slice A4 n4 c4, .slice A5 n5 c5] := ⟨(Below.refl _ w).alloc (Nat.le_refl _) _, by simp, Blk.new w _ _⟩
  go_enter Try.func6, Try.ntmps6
  go_wp2_with (first
    | (go_at_call 13; refine (O1 _ (by assumption)).mono ?_; rintro e w' ⟨rfl, st, q0, q1, q2, q3, q4, q5⟩)
    | (go_at_call 7; refine (O2 _ (by assumption)).mono ?_; rintro e w' ⟨rfl, st, q0, q1, q2, q3, q4, q5⟩)
    | (go_at_call 14; refine (O3 _ (by assumption)).mono ?_; rintro e w' ⟨rfl, st, q0, q1, q2, q3, q4, q5⟩)
    | (go_at_call 16; refine (O4 _ (by assumption)).mono ?_; rintro e w' ⟨f, rfl, hsh⟩)
    | (go_at_call 15; refine hsh.mono ?_; rintro e w' ⟨rfl, st, q0, q1, q2, q3, q4, q5⟩)
    | (go_at_call 8; refine (O5 _ (by assumption)).mono ?_; rintro e w' ⟨rfl, st, q0, q1, q2, q3, q4, q5⟩))
  go_ret
  exact ⟨rfl, st.1⟩
set_option maxRecDepth 20000 in
set_option maxHeartbeats 1000000 in
theorem may3_order (w : World) (sh : Bool) (s : ByteArray) (A2 A3 A4 A5 : Option Addr) (n2 c2 n3 c3 n4 c4 n5 c5 L sz : Nat) (hL : (L : Int) ≤ 1000) (hL2 : 1 ≤ (L : Int)) (ok : MayOk w 3 s (.slice A2 n2 c2) (.slice A3 n3 c3) (.slice A4 n4 c4) (.slice A5 n5 c5) true L false sh sz) :
    Calls Try.prog 6 #[.agg #[.int .i64 3, .string s, .slice A2 n2 c2, .slice A3 n3 c3, .slice A4 n4 c4, .slice A5 n5 c5]] w fun e w' => e = .returned (.bool false) ∧ Below w.heap.size w w' := by
  obtain ⟨O1, O2, O3, O4, O5⟩ := ok
  replace O5 := O5 (by decide)
  have st0 : MSt w (w.alloc (.cells #[.int .i64 3, .string s, .slice A2 n2 c2, .slice A3 n3 c3, .slice A4 n4 c4, .slice A5 n5 c5] 29)) #[.int .i64 3, .string s, .slice A2 n2 c2, .slice A3 n3 c3, .slice A4 n4 c4, .slice A5 n5 c5] := ⟨(Below.refl _ w).alloc (Nat.le_refl _) _, by simp, Blk.new w _ _⟩
  go_enter Try.func6, Try.ntmps6
  go_wp2_with (first
    | (go_at_call 13; refine (O1 _ (by assumption)).mono ?_; rintro e w' ⟨rfl, st, q0, q1, q2, q3, q4, q5⟩)
    | (go_at_call 7; refine (O2 _ (by assumption)).mono ?_; rintro e w' ⟨rfl, st, q0, q1, q2, q3, q4, q5⟩)
    | (go_at_call 14; refine (O3 _ (by assumption)).mono ?_; rintro e w' ⟨rfl, st, q0, q1, q2, q3, q4, q5⟩)
    | (go_at_call 16; refine (O4 _ (by assumption)).mono ?_; rintro e w' ⟨f, rfl, hsh⟩)
    | (go_at_call 15; refine hsh.mono ?_; rintro e w' ⟨rfl, st, q0, q1, q2, q3, q4, q5⟩)
    | (go_at_call 8; refine (O5 _ (by assumption)).mono ?_; rintro e w' ⟨rfl, st, q0, q1, q2, q3, q4, q5⟩))
  go_ret
  exact ⟨rfl, st.1⟩
set_option maxRecDepth 20000 in
set_option maxHeartbeats 1000000 in
theorem may3_long (w : World) (s : ByteArray) (A2 A3 A4 A5 : Option Addr) (n2 c2 n3 c3 n4 c4 n5 c5 L sz : Nat) (hL : (L : Int) ≤ 1000) (hL2 : 1 ≤ (L : Int)) (ok : MayOk w 3 s (.slice A2 n2 c2) (.slice A3 n3 c3) (.slice A4 n4 c4) (.slice A5 n5 c5) true L true false sz) :
    Calls Try.prog 6 #[.agg #[.int .i64 3, .string s, .slice A2 n2 c2, .slice A3 n3 c3, .slice A4 n4 c4, .slice A5 n5 c5]] w fun e w' => e = .returned (.bool false) ∧ Below w.heap.size w w' := by
  obtain ⟨O1, O2, O3, O4, O5⟩ := ok
  replace O5 := O5 (by decide)
  have st0 : MSt w (w.alloc (.cells #[.int .i64 3, .string s, .slice A2 n2 c2, .slice A3 n3 c3, .slice A4 n4 c4, .slice A5 n5 c5] 29)) #[.int .i64 3, .string s, .slice A2 n2 c2, .slice A3 n3 c3, .slice A4 n4 c4, .slice A5 n5 c5] := ⟨(Below.refl _ w).alloc (Nat.le_refl _) _, by simp, Blk.new w _ _⟩
  go_enter Try.func6, Try.ntmps6
  go_wp2_with (first
    | (go_at_call 13; refine (O1 _ (by assumption)).mono ?_; rintro e w' ⟨rfl, st, q0, q1, q2, q3, q4, q5⟩)
    | (go_at_call 7; refine (O2 _ (by assumption)).mono ?_; rintro e w' ⟨rfl, st, q0, q1, q2, q3, q4, q5⟩)
    | (go_at_call 14; refine (O3 _ (by assumption)).mono ?_; rintro e w' ⟨rfl, st, q0, q1, q2, q3, q4, q5⟩)
    | (go_at_call 16; refine (O4 _ (by assumption)).mono ?_; rintro e w' ⟨f, rfl, hsh⟩)
    | (go_at_call 15; refine hsh.mono ?_; rintro e w' ⟨rfl, st, q0, q1, q2, q3, q4, q5⟩)
    | (go_at_call 8; refine (O5 _ (by assumption)).mono ?_; rintro e w' ⟨rfl, st, q0, q1, q2, q3, q4, q5⟩))
  go_ret
  exact ⟨rfl, st.1⟩
set_option maxRecDepth 20000 in
set_option maxHeartbeats 1000000 in
theorem may3_ok (w : World) (s : ByteArray) (A2 A3 A4 A5 : Option Addr) (n2 c2 n3 c3 n4 c4 n5 c5 L sz : Nat) (hL : (L : Int) ≤ 1000) (hL2 : 1 ≤ (L : Int)) (ok : MayOk w 3 s (.slice A2 n2 c2) (.slice A3 n3 c3) (.slice A4 n4 c4) (.slice A5 n5 c5) true L true true sz) :
    Calls Try.prog 6 #[.agg #[.int .i64 3, .string s, .slice A2 n2 c2, .slice A3 n3 c3, .slice A4 n4 c4, .slice A5 n5 c5]] w fun e w' => e = .returned (.bool (decide ((sz : Int) ≤ 262144))) ∧ Below w.heap.size w w' := by
  obtain ⟨O1, O2, O3, O4, O5⟩ := ok
  replace O5 := O5 (by decide)
  have st0 : MSt w (w.alloc (.cells #[.int .i64 3, .string s, .slice A2 n2 c2, .slice A3 n3 c3, .slice A4 n4 c4, .slice A5 n5 c5] 29)) #[.int .i64 3, .string s, .slice A2 n2 c2, .slice A3 n3 c3, .slice A4 n4 c4, .slice A5 n5 c5] := ⟨(Below.refl _ w).alloc (Nat.le_refl _) _, by simp, Blk.new w _ _⟩
  go_enter Try.func6, Try.ntmps6
  go_wp2_with (first
    | (go_at_call 13; refine (O1 _ (by assumption)).mono ?_; rintro e w' ⟨rfl, st, q0, q1, q2, q3, q4, q5⟩)
    | (go_at_call 7; refine (O2 _ (by assumption)).mono ?_; rintro e w' ⟨rfl, st, q0, q1, q2, q3, q4, q5⟩)
    | (go_at_call 14; refine (O3 _ (by assumption)).mono ?_; rintro e w' ⟨rfl, st, q0, q1, q2, q3, q4, q5⟩)
    | (go_at_call 16; refine (O4 _ (by assumption)).mono ?_; rintro e w' ⟨f, rfl, hsh⟩)
    | (go_at_call 15; refine hsh.mono ?_; rintro e w' ⟨rfl, st, q0, q1, q2, q3, q4, q5⟩)
    | (go_at_call 8; refine (O5 _ (by assumption)).mono ?_; rintro e w' ⟨rfl, st, q0, q1, q2, q3, q4, q5⟩))
  go_ret
  exact ⟨rfl, st.1⟩
set_option maxRecDepth 20000 in
set_option maxHeartbeats 1000000 in
theorem may4_few (w : World) (io sh : Bool) (s : ByteArray) (A2 A3 A4 A5 : Option Addr) (n2 c2 n3 c3 n4 c4 n5 c5 L sz : Nat) (hL : (L : Int) < 1) (ok : MayOk w 4 s (.slice A2 n2 c2) (.slice A3 n3 c3) (.slice A4 n4 c4) (.slice A5 n5 c5) true L io sh sz) :
    Calls Try.prog 6 #[.agg #[.int .i64 4, .string s, .slice A2 n2 c2, .slice A3 n3 c3, .slice A4 n4 c4, .slice A5 n5 c5]] w fun e w' => e = .returned (.bool false) ∧ Below w.heap.size w w' := by
  obtain ⟨O1, O2, O3, O4, O5⟩ := ok
  replace O5 := O5 (by decide)
  have st0 : MSt w (w.alloc (.cells #[.int .i64 4, .string s, .slice A2 n2 c2, .slice A3 n3 c3, .slice A4 n4 c4, .slice A5 n5 c5] 29)) #[.int .i64 4, .string s, .slice A2 n2 c2, .slice A3 n3 c3, .slice A4 n4 c4, .slice A5 n5 c5] := ⟨(Below.refl _ w).alloc (Nat.le_refl _) _, by simp, Blk.new w _ _⟩
  go_enter Try.func6, Try.ntmps6
  go_wp2_with (first
    | (go_at_call 13; refine (O1 _ (by assumption)).mono ?_; rintro e w' ⟨rfl, st, q0, q1, q2, q3, q4, q5⟩)
    | (go_at_call 7; refine (O2 _ (by assumption)).mono ?_; rintro e w' ⟨rfl, st, q0, q1, q2, q3, q4, q5⟩)
    | (go_at_call 14; refine (O3 _ (by assumption)).mono ?_; rintro e w' ⟨rfl, st, q0, q1, q2, q3, q4, q5⟩)
    | (go_at_call 16; refine (O4 _ (by assumption)).mono ?_; rintro e w' ⟨f, rfl, hsh⟩)
    | (go_at_call 15; refine hsh.mono ?_; rintro e w' ⟨rfl, st, q0, q1, q2, q3, q4, q5⟩)
    | (go_at_call 8; refine (O5 _ (by assumption)).mono ?_; rintro e w' ⟨rfl, st, q0, q1, q2, q3, q4, q5⟩))
  go_ret
  exact ⟨rfl, st.1⟩
set_option maxRecDepth 20000 in
set_option maxHeartbeats 1000000 in
theorem may4_many (w : World) (io sh : Bool) (s : ByteArray) (A2 A3 A4 A5 : Option Addr) (n2 c2 n3 c3 n4 c4 n5 c5 L sz : Nat) (hL : 1000 < (L : Int)) (hL2 : 1 ≤ (L : Int)) (ok : MayOk w 4 s (.slice A2 n2 c2) (.slice A3 n3 c3) (.slice A4 n4 c4) (.slice A5 n5 c5) true L io sh sz) :
    Calls Try.prog 6 #[.agg #[.int .i64 4, .string s, .slice A2 n2 c2, .slice A3 n3 c3, .slice A4 n4 c4, .slice A5 n5 c5]] w fun e w' => e = .returned (.bool false) ∧ Below w.heap.size w w' := by
  obtain ⟨O1, O2, O3, O4, O5⟩ := ok
  replace O5 := O5 (by decide)
  have st0 : MSt w (w.alloc (.cells #[.int .i64 4, .string s, .slice A2 n2 c2, .slice A3 n3 c3, .slice A4 n4 c4, .slice A5 n5 c5] 29)) #[.int .i64 4, .string s, .slice A2 n2 c2, .slice A3 n3 c3, .slice A4 n4 c4, .slice A5 n5 c5] := ⟨(Below.refl _ w).alloc (Nat.le_refl _) _, by simp, Blk.new w _ _⟩
  go_enter Try.func6, Try.ntmps6
  go_wp2_with (first
    | (go_at_call 13; refine (O1 _ (by assumption)).mono ?_; rintro e w' ⟨rfl, st, q0, q1, q2, q3, q4, q5⟩)
    | (go_at_call 7; refine (O2 _ (by assumption)).mono ?_; rintro e w' ⟨rfl, st, q0, q1, q2, q3, q4, q5⟩)
    | (go_at_call 14; refine (O3 _ (by assumption)).mono ?_; rintro e w' ⟨rfl, st, q0, q1, q2, q3, q4, q5⟩)
    | (go_at_call 16; refine (O4 _ (by assumption)).mono ?_; rintro e w' ⟨f, rfl, hsh⟩)
    | (go_at_call 15; refine hsh.mono ?_; rintro e w' ⟨rfl, st, q0, q1, q2, q3, q4, q5⟩)
    | (go_at_call 8; refine (O5 _ (by assumption)).mono ?_; rintro e w' ⟨rfl, st, q0, q1, q2, q3, q4, q5⟩))
  go_ret
  exact ⟨rfl, st.1⟩
set_option maxRecDepth 20000 in
set_option maxHeartbeats 1000000 in
theorem may4_order (w : World) (sh : Bool) (s : ByteArray) (A2 A3 A4 A5 : Option Addr) (n2 c2 n3 c3 n4 c4 n5 c5 L sz : Nat) (hL : (L : Int) ≤ 1000) (hL2 : 1 ≤ (L : Int)) (ok : MayOk w 4 s (.slice A2 n2 c2) (.slice A3 n3 c3) (.slice A4 n4 c4) (.slice A5 n5 c5) true L false sh sz) :
    Calls Try.prog 6 #[.agg #[.int .i64 4, .string s, .slice A2 n2 c2, .slice A3 n3 c3, .slice A4 n4 c4, .slice A5 n5 c5]] w fun e w' => e = .returned (.bool false) ∧ Below w.heap.size w w' := by
  obtain ⟨O1, O2, O3, O4, O5⟩ := ok
  replace O5 := O5 (by decide)
  have st0 : MSt w (w.alloc (.cells #[.int .i64 4, .string s, .slice A2 n2 c2, .slice A3 n3 c3, .slice A4 n4 c4, .slice A5 n5 c5] 29)) #[.int .i64 4, .string s, .slice A2 n2 c2, .slice A3 n3 c3, .slice A4 n4 c4, .slice A5 n5 c5] := ⟨(Below.refl _ w).alloc (Nat.le_refl _) _, by simp, Blk.new w _ _⟩
  go_enter Try.func6, Try.ntmps6
  go_wp2_with (first
    | (go_at_call 13; refine (O1 _ (by assumption)).mono ?_; rintro e w' ⟨rfl, st, q0, q1, q2, q3, q4, q5⟩)
    | (go_at_call 7; refine (O2 _ (by assumption)).mono ?_; rintro e w' ⟨rfl, st, q0, q1, q2, q3, q4, q5⟩)
    | (go_at_call 14; refine (O3 _ (by assumption)).mono ?_; rintro e w' ⟨rfl, st, q0, q1, q2, q3, q4, q5⟩)
    | (go_at_call 16; refine (O4 _ (by assumption)).mono ?_; rintro e w' ⟨f, rfl, hsh⟩)
    | (go_at_call 15; refine hsh.mono ?_; rintro e w' ⟨rfl, st, q0, q1, q2, q3, q4, q5⟩)
    | (go_at_call 8; refine (O5 _ (by assumption)).mono ?_; rintro e w' ⟨rfl, st, q0, q1, q2, q3, q4, q5⟩))
  go_ret
  exact ⟨rfl, st.1⟩
set_option maxRecDepth 20000 in
set_option maxHeartbeats 1000000 in
theorem may4_long (w : World) (s : ByteArray) (A2 A3 A4 A5 : Option Addr) (n2 c2 n3 c3 n4 c4 n5 c5 L sz : Nat) (hL : (L : Int) ≤ 1000) (hL2 : 1 ≤ (L : Int)) (ok : MayOk w 4 s (.slice A2 n2 c2) (.slice A3 n3 c3) (.slice A4 n4 c4) (.slice A5 n5 c5) true L true false sz) :
    Calls Try.prog 6 #[.agg #[.int .i64 4, .string s, .slice A2 n2 c2, .slice A3 n3 c3, .slice A4 n4 c4, .slice A5 n5 c5]] w fun e w' => e = .returned (.bool false) ∧ Below w.heap.size w w' := by
  obtain ⟨O1, O2, O3, O4, O5⟩ := ok
  replace O5 := O5 (by decide)
  have st0 : MSt w (w.alloc (.cells #[.int .i64 4, .string s, .slice A2 n2 c2, .slice A3 n3 c3, .slice A4 n4 c4, .slice A5 n5 c5] 29)) #[.int .i64 4, .string s, .slice A2 n2 c2, .slice A3 n3 c3, .slice A4 n4 c4, .slice A5 n5 c5] := ⟨(Below.refl _ w).alloc (Nat.le_refl _) _, by simp, Blk.new w _ _⟩
  go_enter Try.func6, Try.ntmps6
  go_wp2_with (first
    | (go_at_call 13; refine (O1 _ (by assumption)).mono ?_; rintro e w' ⟨rfl, st, q0, q1, q2, q3, q4, q5⟩)
    | (go_at_call 7; refine (O2 _ (by assumption)).mono ?_; rintro e w' ⟨rfl, st, q0, q1, q2, q3, q4, q5⟩)
    | (go_at_call 14; refine (O3 _ (by assumption)).mono ?_; rintro e w' ⟨rfl, st, q0, q1, q2, q3, q4, q5⟩)
    | (go_at_call 16; refine (O4 _ (by assumption)).mono ?_; rintro e w' ⟨f, rfl, hsh⟩)
    | (go_at_call 15; refine hsh.mono ?_; rintro e w' ⟨rfl, st, q0, q1, q2, q3, q4, q5⟩)
    | (go_at_call 8; refine (O5 _ (by assumption)).mono ?_; rintro e w' ⟨rfl, st, q0, q1, q2, q3, q4, q5⟩))
  go_ret
  exact ⟨rfl, st.1⟩
set_option maxRecDepth 20000 in
set_option maxHeartbeats 1000000 in
theorem may4_ok (w : World) (s : ByteArray) (A2 A3 A4 A5 : Option Addr) (n2 c2 n3 c3 n4 c4 n5 c5 L sz : Nat) (hL : (L : Int) ≤ 1000) (hL2 : 1 ≤ (L : Int)) (ok : MayOk w 4 s (.slice A2 n2 c2) (.slice A3 n3 c3) (.slice A4 n4 c4) (.slice A5 n5 c5) true L true true sz) :
    Calls Try.prog 6 #[.agg #[.int .i64 4, .string s, .slice A2 n2 c2, .slice A3 n3 c3, .slice A4 n4 c4, .slice A5 n5 c5]] w fun e w' => e = .returned (.bool (decide ((sz : Int) ≤ 262144))) ∧ Below w.heap.size w w' := by
  obtain ⟨O1, O2, O3, O4, O5⟩ := ok
  replace O5 := O5 (by decide)
  have st0 : MSt w (w.alloc (.cells #[.int .i64 4, .string s, .slice A2 n2 c2, .slice A3 n3 c3, .slice A4 n4 c4, .slice A5 n5 c5] 29)) #[.int .i64 4, .string s, .slice A2 n2 c2, .slice A3 n3 c3, .slice A4 n4 c4, .slice A5 n5 c5] := ⟨(Below.refl _ w).alloc (Nat.le_refl _) _, by simp, Blk.new w _ _⟩
  go_enter Try.func6, Try.ntmps6
  go_wp2_with (first
    | (go_at_call 13; refine (O1 _ (by assumption)).mono ?_; rintro e w' ⟨rfl, st, q0, q1, q2, q3, q4, q5⟩)
    | (go_at_call 7; refine (O2 _ (by assumption)).mono ?_; rintro e w' ⟨rfl, st, q0, q1, q2, q3, q4, q5⟩)
    | (go_at_call 14; refine (O3 _ (by assumption)).mono ?_; rintro e w' ⟨rfl, st, q0, q1, q2, q3, q4, q5⟩)
    | (go_at_call 16; refine (O4 _ (by assumption)).mono ?_; rintro e w' ⟨f, rfl, hsh⟩)
    | (go_at_call 15; refine hsh.mono ?_; rintro e w' ⟨rfl, st, q0, q1, q2, q3, q4, q5⟩)
    | (go_at_call 8; refine (O5 _ (by assumption)).mono ?_; rintro e w' ⟨rfl, st, q0, q1, q2, q3, q4, q5⟩))
  go_ret
  exact ⟨rfl, st.1⟩
set_option maxRecDepth 20000 in
set_option maxHeartbeats 1000000 in
theorem may5_few (w : World) (io sh : Bool) (s : ByteArray) (A2 A3 A4 A5 : Option Addr) (n2 c2 n3 c3 n4 c4 n5 c5 L sz : Nat) (hL : (L : Int) < 1) (ok : MayOk w 5 s (.slice A2 n2 c2) (.slice A3 n3 c3) (.slice A4 n4 c4) (.slice A5 n5 c5) true L io sh sz) :
    Calls Try.prog 6 #[.agg #[.int .i64 5, .string s, .slice A2 n2 c2, .slice A3 n3 c3, .slice A4 n4 c4, .slice A5 n5 c5]] w fun e w' => e = .returned (.bool false) ∧ Below w.heap.size w w' := by
  obtain ⟨O1, O2, O3, O4, O5⟩ := ok
  replace O5 := O5 (by decide)
  have st0 : MSt w (w.alloc (.cells #[.int .i64 5, .string s, .slice A2 n2 c2, .slice A3 n3 c3, .slice A4 n4 c4, .slice A5 n5 c5] 29)) #[.int .i64 5, .string s, .slice A2 n2 c2, .slice A3 n3 c3, .slice A4 n4 c4, .slice A5 n5 c5] := ⟨(Below.refl _ w).alloc (Nat.le_refl _) _, by simp, Blk.new w _ _⟩
  go_enter Try.func6, Try.ntmps6
  go_wp2_with (first
    | (go_at_call 13; refine (O1 _ (by assumption)).mono ?_; rintro e w' ⟨rfl, st, q0, q1, q2, q3, q4, q5⟩)
    | (go_at_call 7; refine (O2 _ (by assumption)).mono ?_; rintro e w' ⟨rfl, st, q0, q1, q2, q3, q4, q5⟩)
    | (go_at_call 14; refine (O3 _ (by assumption)).mono ?_; rintro e w' ⟨rfl, st, q0, q1, q2, q3, q4, q5⟩)
    | (go_at_call 16; refine (O4 _ (by assumption)).mono ?_; rintro e w' ⟨f, rfl, hsh⟩)
    | (go_at_call 15; refine hsh.mono ?_; rintro e w' ⟨rfl, st, q0, q1, q2, q3, q4, q5⟩)
    | (go_at_call 8; refine (O5 _ (by assumption)).mono ?_; rintro e w' ⟨rfl, st, q0, q1, q2, q3, q4, q5⟩))
  go_ret
  exact ⟨rfl, st.1⟩
set_option maxRecDepth 20000 in
set_option maxHeartbeats 1000000 in
theorem may5_many (w : World) (io sh : Bool) (s : ByteArray) (A2 A3 A4 A5 : Option Addr) (n2 c2 n3 c3 n4 c4 n5 c5 L sz : Nat) (hL : 1000 < (L : Int)) (hL2 : 1 ≤ (L : Int)) (ok : MayOk w 5 s (.slice A2 n2 c2) (.slice A3 n3 c3) (.slice A4 n4 c4) (.slice A5 n5 c5) true L io sh sz) :
    Calls Try.prog 6 #[.agg #[.int .i64 5, .string s, .slice A2 n2 c2, .slice A3 n3 c3, .slice A4 n4 c4, .slice A5 n5 c5]] w fun e w' => e = .returned (.bool false) ∧ Below w.heap.size w w' := by
  obtain ⟨O1, O2, O3, O4, O5⟩ := ok
  replace O5 := O5 (by decide)
  have st0 : MSt w (w.alloc (.cells #[.int .i64 5, .string s, .slice A2 n2 c2, .slice A3 n3 c3, .slice A4 n4 c4, .slice A5 n5 c5] 29)) #[.int .i64 5, .string s, .slice A2 n2 c2, .slice A3 n3 c3, .slice A4 n4 c4, .slice A5 n5 c5] := ⟨(Below.refl _ w).alloc (Nat.le_refl _) _, by simp, Blk.new w _ _⟩
  go_enter Try.func6, Try.ntmps6
  go_wp2_with (first
    | (go_at_call 13; refine (O1 _ (by assumption)).mono ?_; rintro e w' ⟨rfl, st, q0, q1, q2, q3, q4, q5⟩)
    | (go_at_call 7; refine (O2 _ (by assumption)).mono ?_; rintro e w' ⟨rfl, st, q0, q1, q2, q3, q4, q5⟩)
    | (go_at_call 14; refine (O3 _ (by assumption)).mono ?_; rintro e w' ⟨rfl, st, q0, q1, q2, q3, q4, q5⟩)
    | (go_at_call 16; refine (O4 _ (by assumption)).mono ?_; rintro e w' ⟨f, rfl, hsh⟩)
    | (go_at_call 15; refine hsh.mono ?_; rintro e w' ⟨rfl, st, q0, q1, q2, q3, q4, q5⟩)
    | (go_at_call 8; refine (O5 _ (by assumption)).mono ?_; rintro e w' ⟨rfl, st, q0, q1, q2, q3, q4, q5⟩))
  go_ret
  exact ⟨rfl, st.1⟩
set_option maxRecDepth 20000 in
set_option maxHeartbeats 1000000 in
theorem may5_order (w : World) (sh : Bool) (s : ByteArray) (A2 A3 A4 A5 : Option Addr) (n2 c2 n3 c3 n4 c4 n5 c5 L sz : Nat) (hL : (L : Int) ≤ 1000) (hL2 : 1 ≤ (L : Int)) (ok : MayOk w 5 s (.slice A2 n2 c2) (.slice A3 n3 c3) (.slice A4 n4 c4) (.slice A5 n5 c5) true L false sh sz) :
    Calls Try.prog 6 #[.agg #[.int .i64 5, .string s, .slice A2 n2 c2, .slice A3 n3 c3, .slice A4 n4 c4, .slice A5 n5 c5]] w fun e w' => e = .returned (.bool false) ∧ Below w.heap.size w w' := by
  obtain ⟨O1, O2, O3, O4, O5⟩ := ok
  replace O5 := O5 (by decide)
  have st0 : MSt w (w.alloc (.cells #[.int .i64 5, .string s, .slice A2 n2 c2, .slice A3 n3 c3, .slice A4 n4 c4, .slice A5 n5 c5] 29)) #[.int .i64 5, .string s, .slice A2 n2 c2, .slice A3 n3 c3, .slice A4 n4 c4, .slice A5 n5 c5] := ⟨(Below.refl _ w).alloc (Nat.le_refl _) _, by simp, Blk.new w _ _⟩
  go_enter Try.func6, Try.ntmps6
  go_wp2_with (first
    | (go_at_call 13; refine (O1 _ (by assumption)).mono ?_; rintro e w' ⟨rfl, st, q0, q1, q2, q3, q4, q5⟩)
    | (go_at_call 7; refine (O2 _ (by assumption)).mono ?_; rintro e w' ⟨rfl, st, q0, q1, q2, q3, q4, q5⟩)
    | (go_at_call 14; refine (O3 _ (by assumption)).mono ?_; rintro e w' ⟨rfl, st, q0, q1, q2, q3, q4, q5⟩)
    | (go_at_call 16; refine (O4 _ (by assumption)).mono ?_; rintro e w' ⟨f, rfl, hsh⟩)
    | (go_at_call 15; refine hsh.mono ?_; rintro e w' ⟨rfl, st, q0, q1, q2, q3, q4, q5⟩)
    | (go_at_call 8; refine (O5 _ (by assumption)).mono ?_; rintro e w' ⟨rfl, st, q0, q1, q2, q3, q4, q5⟩))
  go_ret
  exact ⟨rfl, st.1⟩
set_option maxRecDepth 20000 in
set_option maxHeartbeats 1000000 in
theorem may5_long (w : World) (s : ByteArray) (A2 A3 A4 A5 : Option Addr) (n2 c2 n3 c3 n4 c4 n5 c5 L sz : Nat) (hL : (L : Int) ≤ 1000) (hL2 : 1 ≤ (L : Int)) (ok : MayOk w 5 s (.slice A2 n2 c2) (.slice A3 n3 c3) (.slice A4 n4 c4) (.slice A5 n5 c5) true L true false sz) :
    Calls Try.prog 6 #[.agg #[.int .i64 5, .string s, .slice A2 n2 c2, .slice A3 n3 c3, .slice A4 n4 c4, .slice A5 n5 c5]] w fun e w' => e = .returned (.bool false) ∧ Below w.heap.size w w' := by
  obtain ⟨O1, O2, O3, O4, O5⟩ := ok
  replace O5 := O5 (by decide)
  have st0 : MSt w (w.alloc (.cells #[.int .i64 5, .string s, .slice A2 n2 c2, .slice A3 n3 c3, .slice A4 n4 c4, .slice A5 n5 c5] 29)) #[.int .i64 5, .string s, .slice A2 n2 c2, .slice A3 n3 c3, .slice A4 n4 c4, .slice A5 n5 c5] := ⟨(Below.refl _ w).alloc (Nat.le_refl _) _, by simp, Blk.new w _ _⟩
  go_enter Try.func6, Try.ntmps6
  go_wp2_with (first
    | (go_at_call 13; refine (O1 _ (by assumption)).mono ?_; rintro e w' ⟨rfl, st, q0, q1, q2, q3, q4, q5⟩)
    | (go_at_call 7; refine (O2 _ (by assumption)).mono ?_; rintro e w' ⟨rfl, st, q0, q1, q2, q3, q4, q5⟩)
    | (go_at_call 14; refine (O3 _ (by assumption)).mono ?_; rintro e w' ⟨rfl, st, q0, q1, q2, q3, q4, q5⟩)
    | (go_at_call 16; refine (O4 _ (by assumption)).mono ?_; rintro e w' ⟨f, rfl, hsh⟩)
    | (go_at_call 15; refine hsh.mono ?_; rintro e w' ⟨rfl, st, q0, q1, q2, q3, q4, q5⟩)
    | (go_at_call 8; refine (O5 _ (by assumption)).mono ?_; rintro e w' ⟨rfl, st, q0, q1, q2, q3, q4, q5⟩))
  go_ret
  exact ⟨rfl, st.1⟩
set_option maxRecDepth 20000 in
set_option maxHeartbeats 1000000 in
theorem may5_ok (w : World) (s : ByteArray) (A2 A3 A4 A5 : Option Addr) (n2 c2 n3 c3 n4 c4 n5 c5 L sz : Nat) (hL : (L : Int) ≤ 1000) (hL2 : 1 ≤ (L : Int)) (ok : MayOk w 5 s (.slice A2 n2 c2) (.slice A3 n3 c3) (.slice A4 n4 c4) (.slice A5 n5 c5) true L true true sz) :
    Calls Try.prog 6 #[.agg #[.int .i64 5, .string s, .slice A2 n2 c2, .slice A3 n3 c3, .slice A4 n4 c4, .slice A5 n5 c5]] w fun e w' => e = .returned (.bool (decide ((sz : Int) ≤ 262144))) ∧ Below w.heap.size w w' := by
  obtain ⟨O1, O2, O3, O4, O5⟩ := ok
  replace O5 := O5 (by decide)
  have st0 : MSt w (w.alloc (.cells #[.int .i64 5, .string s, .slice A2 n2 c2, .slice A3 n3 c3, .slice A4 n4 c4, .slice A5 n5 c5] 29)) #[.int .i64 5, .string s, .slice A2 n2 c2, .slice A3 n3 c3, .slice A4 n4 c4, .slice A5 n5 c5] := ⟨(Below.refl _ w).alloc (Nat.le_refl _) _, by simp, Blk.new w _ _⟩
  go_enter Try.func6, Try.ntmps6
  go_wp2_with (first
    | (go_at_call 13; refine (O1 _ (by assumption)).mono ?_; rintro e w' ⟨rfl, st, q0, q1, q2, q3, q4, q5⟩)
    | (go_at_call 7; refine (O2 _ (by assumption)).mono ?_; rintro e w' ⟨rfl, st, q0, q1, q2, q3, q4, q5⟩)
    | (go_at_call 14; refine (O3 _ (by assumption)).mono ?_; rintro e w' ⟨rfl, st, q0, q1, q2, q3, q4, q5⟩)
    | (go_at_call 16; refine (O4 _ (by assumption)).mono ?_; rintro e w' ⟨f, rfl, hsh⟩)
    | (go_at_call 15; refine hsh.mono ?_; rintro e w' ⟨rfl, st, q0, q1, q2, q3, q4, q5⟩)
    | (go_at_call 8; refine (O5 _ (by assumption)).mono ?_; rintro e w' ⟨rfl, st, q0, q1, q2, q3, q4, q5⟩))
  go_ret
  exact ⟨rfl, st.1⟩
set_option maxRecDepth 20000 in
set_option maxHeartbeats 1000000 in
theorem may1_long (w : World) (io : Bool) (s : ByteArray) (A2 A3 A4 A5 : Option Addr) (n2 c2 n3 c3 n4 c4 n5 c5 L sz : Nat) (ok : MayOk w 1 s (.slice A2 n2 c2) (.slice A3 n3 c3) (.slice A4 n4 c4) (.slice A5 n5 c5) true L io false sz) :
    Calls Try.prog 6 #[.agg #[.int .i64 1, .string s, .slice A2 n2 c2, .slice A3 n3 c3, .slice A4 n4 c4, .slice A5 n5 c5]] w fun e w' => e = .returned (.bool false) ∧ Below w.heap.size w w' := by
  obtain ⟨O1, O2, O3, O4, O5⟩ := ok
  replace O5 := O5 (by decide)
  have st0 : MSt w (w.alloc (.cells #[.int .i64 1, .string s, .slice A2 n2 c2, .slice A3 n3 c3, .slice A4 n4 c4, .slice A5 n5 c5] 29)) #[.int .i64 1, .string s, .slice A2 n2 c2, .slice A3 n3 c3, .slice A4 n4 c4, .slice A5 n5 c5] := ⟨(Below.refl _ w).alloc (Nat.le_refl _) _, by simp, Blk.new w _ _⟩
  go_enter Try.func6, Try.ntmps6
  go_wp2_with (first
    | (go_at_call 13; refine (O1 _ (by assumption)).mono ?_; rintro e w' ⟨rfl, st, q0, q1, q2, q3, q4, q5⟩)
    | (go_at_call 7; refine (O2 _ (by assumption)).mono ?_; rintro e w' ⟨rfl, st, q0, q1, q2, q3, q4, q5⟩)
    | (go_at_call 14; refine (O3 _ (by assumption)).mono ?_; rintro e w' ⟨rfl, st, q0, q1, q2, q3, q4, q5⟩)
    | (go_at_call 16; refine (O4 _ (by assumption)).mono ?_; rintro e w' ⟨f, rfl, hsh⟩)
    | (go_at_call 15; refine hsh.mono ?_; rintro e w' ⟨rfl, st, q0, q1, q2, q3, q4, q5⟩)
    | (go_at_call 8; refine (O5 _ (by assumption)).mono ?_; rintro e w' ⟨rfl, st, q0, q1, q2, q3, q4, q5⟩))
  go_ret
  exact ⟨rfl, st.1⟩
set_option maxRecDepth 20000 in
set_option maxHeartbeats 1000000 in
theorem may1_ok (w : World) (io : Bool) (s : ByteArray) (A2 A3 A4 A5 : Option Addr) (n2 c2 n3 c3 n4 c4 n5 c5 L sz : Nat) (ok : MayOk w 1 s (.slice A2 n2 c2) (.slice A3 n3 c3) (.slice A4 n4 c4) (.slice A5 n5 c5) true L io true sz) :
    Calls Try.prog 6 #[.agg #[.int .i64 1, .string s, .slice A2 n2 c2, .slice A3 n3 c3, .slice A4 n4 c4, .slice A5 n5 c5]] w fun e w' => e = .returned (.bool (decide ((sz : Int) ≤ 262144))) ∧ Below w.heap.size w w' := by
  obtain ⟨O1, O2, O3, O4, O5⟩ := ok
  replace O5 := O5 (by decide)
  have st0 : MSt w (w.alloc (.cells #[.int .i64 1, .string s, .slice A2 n2 c2, .slice A3 n3 c3, .slice A4 n4 c4, .slice A5 n5 c5] 29)) #[.int .i64 1, .string s, .slice A2 n2 c2, .slice A3 n3 c3, .slice A4 n4 c4, .slice A5 n5 c5] := ⟨(Below.refl _ w).alloc (Nat.le_refl _) _, by simp, Blk.new w _ _⟩
  go_enter Try.func6, Try.ntmps6
  go_wp2_with (first
    | (go_at_call 13; refine (O1 _ (by assumption)).mono ?_; rintro e w' ⟨rfl, st, q0, q1, q2, q3, q4, q5⟩)
    | (go_at_call 7; refine (O2 _ (by assumption)).mono ?_; rintro e w' ⟨rfl, st, q0, q1, q2, q3, q4, q5⟩)
    | (go_at_call 14; refine (O3 _ (by assumption)).mono ?_; rintro e w' ⟨rfl, st, q0, q1, q2, q3, q4, q5⟩)
    | (go_at_call 16; refine (O4 _ (by assumption)).mono ?_; rintro e w' ⟨f, rfl, hsh⟩)
    | (go_at_call 15; refine hsh.mono ?_; rintro e w' ⟨rfl, st, q0, q1, q2, q3, q4, q5⟩)
    | (go_at_call 8; refine (O5 _ (by assumption)).mono ?_; rintro e w' ⟨rfl, st, q0, q1, q2, q3, q4, q5⟩))
  go_ret
  exact ⟨rfl, st.1⟩
theorem cast_le (a b : Nat) : decide ((a : Int) ≤ (b : Int)) = decide (a ≤ b) := by
  by_cases h : a ≤ b
  · rw [decide_eq_true h, decide_eq_true (Int.ofNat_le.2 h)]
  · rw [decide_eq_false h, decide_eq_false (fun k => h (Int.ofNat_le.1 k))]
theorem may_ok_of (pt : Nat × Nat → Bool) (w : World) (B : Nat) (x : Vl) (A2 A3 A4 A5 : Option Addr) (c2 c3 c4 c5 : Nat) (ok : VlOk pt x) (hB : B ≤ w.heap.size)
    (h : Vr w B (.agg #[.int .i64 x.kind, .string x.text, .slice A2 x.list.length c2, .slice A3 x.fields.length c3, .slice A4 x.scores.length c4, .slice A5 x.points.length c5]) x) :
    MayOk w x.kind x.text (.slice A2 x.list.length c2) (.slice A3 x.fields.length c3) (.slice A4 x.scores.length c4) (.slice A5 x.points.length c5) (decide (x.all = x.len)) x.len (x.inOrder pt) (Vl.short x.texts) x.size := by
  have vr : ∀ W, MSt w W #[.int .i64 x.kind, .string x.text, .slice A2 x.list.length c2, .slice A3 x.fields.length c3, .slice A4 x.scores.length c4, .slice A5 x.points.length c5] → Vr W B _ x := fun W h1 => h.below (h1.1.mono hB)
  have hb : ∀ W, MSt w W #[.int .i64 x.kind, .string x.text, .slice A2 x.list.length c2, .slice A3 x.fields.length c3, .slice A4 x.scores.length c4, .slice A5 x.points.length c5] → B ≤ W.heap.size := fun W h1 => Nat.le_trans hB h1.1.size
  have hall : x.all < 4611686018427387904 := by have := ok.list; have := ok.fields; have := ok.scores; have := ok.points; have := ok.text; unfold Vl.all; omega
  constructor
  · exact fun W st => (pure_any W B _ x (vr W st) hall).mono fun e w' ⟨he, b⟩ => ⟨he, st.next b, (st.next b).six⟩
  · exact fun W st => (len_any W B _ x (vr W st)).mono fun e w' ⟨he, b⟩ => ⟨he, st.next b, (st.next b).six⟩
  · exact fun W st => (order_any pt W B _ x (vr W st) ok (hb W st)).mono fun e w' ⟨he, b⟩ => ⟨he, st.next b, (st.next b).six⟩
  · intro W st
    refine (texts_any W B _ x (vr W st) (hb W st) ok.list ok.fields ok.scores ok.points).mono ?_
    rintro e w1 ⟨f, he, b, m⟩
    have s1 := st.next b
    exact ⟨f, he, (short_made m (hb W st) b.size).mono fun e w' ⟨he, b⟩ => ⟨he, s1.next b, (s1.next b).six⟩⟩
  · intro hk W st
    refine (size_any W B _ x (vr W st) ?_ (hb W st) ok.list ok.fields ok.scores ok.points ok.size).mono fun e w' ⟨he, b⟩ => ⟨he, st.next b, (st.next b).six⟩
    rcases hk with k | k | k | k | k
    · exact .inl k
    all_goals exact .inr (by unfold Vl.many; rw [k]; rfl)
/-- May. -/
theorem may_any (pt : Nat × Nat → Bool) (w : World) (B : Nat) (v : Value) (x : Vl) (h : Vr w B v x) (ok : VlOk pt x) (hB : B ≤ w.heap.size) :
    Calls Try.prog 6 #[v] w fun e w' => e = .returned (.bool (x.may pt)) ∧ Below w.heap.size w w' := by
  obtain ⟨A2, c2, A3, c3, A4, c4, A5, c5, rfl, -⟩ := h.shows
  have mo := may_ok_of pt w B x A2 A3 A4 A5 c2 c3 c4 c5 ok hB h
  have hm : x.may pt = (decide (x.all = x.len) && ((x.many && decide (1 ≤ x.len) && decide (x.len ≤ 1000) && x.inOrder pt) || decide (x.kind = 1)) && Vl.short x.texts && decide (x.size ≤ 262144)) := rfl
  rw [hm]
  clear hm h ok
  generalize decide (x.all = x.len) = pu at *
  generalize Vl.short x.texts = sh at *
  generalize x.inOrder pt = io at *
  have hmany : x.many = (decide (x.kind = 2) || decide (x.kind = 3) || decide (x.kind = 4) || decide (x.kind = 5)) := rfl
  rw [hmany]
  clear hmany
  generalize x.len = L at *
  generalize x.size = sz at *
  obtain ⟨kd, s, ls, fs, ss, ps⟩ := x
  simp only at mo ⊢
  generalize ls.length = n2 at *
  generalize fs.length = n3 at *
  generalize ss.length = n4 at *
  generalize ps.length = n5 at *
  cases pu
  · exact (may_impure w kd io sh s A2 A3 A4 A5 n2 c2 n3 c3 n4 c4 n5 c5 L sz mo).mono fun e w' ⟨he, b⟩ => ⟨by rw [he]; simp, b⟩
  rcases kind_cases kd with rfl | rfl | rfl | rfl | rfl | ⟨k1, k2, k3, k4, k5⟩
  · cases sh
    · exact (may1_long w io s A2 A3 A4 A5 n2 c2 n3 c3 n4 c4 n5 c5 L sz mo).mono fun e w' ⟨he, b⟩ => ⟨by rw [he]; simp, b⟩
    · exact (may1_ok w io s A2 A3 A4 A5 n2 c2 n3 c3 n4 c4 n5 c5 L sz mo).mono fun e w' ⟨he, b⟩ => ⟨by rw [he, ← cast_le sz 262144]; simp, b⟩
  · by_cases l1 : 1 ≤ L
    · by_cases l2 : L ≤ 1000
      · cases io
        · exact (may2_order w sh s A2 A3 A4 A5 n2 c2 n3 c3 n4 c4 n5 c5 L sz (by omega) (by omega) mo).mono fun e w' ⟨he, b⟩ => ⟨by rw [he]; simp, b⟩
        · cases sh
          · exact (may2_long w s A2 A3 A4 A5 n2 c2 n3 c3 n4 c4 n5 c5 L sz (by omega) (by omega) mo).mono fun e w' ⟨he, b⟩ => ⟨by rw [he]; simp, b⟩
          · exact (may2_ok w s A2 A3 A4 A5 n2 c2 n3 c3 n4 c4 n5 c5 L sz (by omega) (by omega) mo).mono fun e w' ⟨he, b⟩ => ⟨by rw [he, ← cast_le sz 262144, decide_eq_true l1, decide_eq_true l2]; simp, b⟩
      · exact (may2_many w io sh s A2 A3 A4 A5 n2 c2 n3 c3 n4 c4 n5 c5 L sz (by omega) (by omega) mo).mono fun e w' ⟨he, b⟩ => ⟨by rw [he, decide_eq_false l2]; simp, b⟩
    · exact (may2_few w io sh s A2 A3 A4 A5 n2 c2 n3 c3 n4 c4 n5 c5 L sz (by omega) mo).mono fun e w' ⟨he, b⟩ => ⟨by rw [he, decide_eq_false l1]; simp, b⟩
  · by_cases l1 : 1 ≤ L
    · by_cases l2 : L ≤ 1000
      · cases io
        · exact (may3_order w sh s A2 A3 A4 A5 n2 c2 n3 c3 n4 c4 n5 c5 L sz (by omega) (by omega) mo).mono fun e w' ⟨he, b⟩ => ⟨by rw [he]; simp, b⟩
        · cases sh
          · exact (may3_long w s A2 A3 A4 A5 n2 c2 n3 c3 n4 c4 n5 c5 L sz (by omega) (by omega) mo).mono fun e w' ⟨he, b⟩ => ⟨by rw [he]; simp, b⟩
          · exact (may3_ok w s A2 A3 A4 A5 n2 c2 n3 c3 n4 c4 n5 c5 L sz (by omega) (by omega) mo).mono fun e w' ⟨he, b⟩ => ⟨by rw [he, ← cast_le sz 262144, decide_eq_true l1, decide_eq_true l2]; simp, b⟩
      · exact (may3_many w io sh s A2 A3 A4 A5 n2 c2 n3 c3 n4 c4 n5 c5 L sz (by omega) (by omega) mo).mono fun e w' ⟨he, b⟩ => ⟨by rw [he, decide_eq_false l2]; simp, b⟩
    · exact (may3_few w io sh s A2 A3 A4 A5 n2 c2 n3 c3 n4 c4 n5 c5 L sz (by omega) mo).mono fun e w' ⟨he, b⟩ => ⟨by rw [he, decide_eq_false l1]; simp, b⟩
  · by_cases l1 : 1 ≤ L
    · by_cases l2 : L ≤ 1000
      · cases io
        · exact (may4_order w sh s A2 A3 A4 A5 n2 c2 n3 c3 n4 c4 n5 c5 L sz (by omega) (by omega) mo).mono fun e w' ⟨he, b⟩ => ⟨by rw [he]; simp, b⟩
        · cases sh
          · exact (may4_long w s A2 A3 A4 A5 n2 c2 n3 c3 n4 c4 n5 c5 L sz (by omega) (by omega) mo).mono fun e w' ⟨he, b⟩ => ⟨by rw [he]; simp, b⟩
          · exact (may4_ok w s A2 A3 A4 A5 n2 c2 n3 c3 n4 c4 n5 c5 L sz (by omega) (by omega) mo).mono fun e w' ⟨he, b⟩ => ⟨by rw [he, ← cast_le sz 262144, decide_eq_true l1, decide_eq_true l2]; simp, b⟩
      · exact (may4_many w io sh s A2 A3 A4 A5 n2 c2 n3 c3 n4 c4 n5 c5 L sz (by omega) (by omega) mo).mono fun e w' ⟨he, b⟩ => ⟨by rw [he, decide_eq_false l2]; simp, b⟩
    · exact (may4_few w io sh s A2 A3 A4 A5 n2 c2 n3 c3 n4 c4 n5 c5 L sz (by omega) mo).mono fun e w' ⟨he, b⟩ => ⟨by rw [he, decide_eq_false l1]; simp, b⟩
  · by_cases l1 : 1 ≤ L
    · by_cases l2 : L ≤ 1000
      · cases io
        · exact (may5_order w sh s A2 A3 A4 A5 n2 c2 n3 c3 n4 c4 n5 c5 L sz (by omega) (by omega) mo).mono fun e w' ⟨he, b⟩ => ⟨by rw [he]; simp, b⟩
        · cases sh
          · exact (may5_long w s A2 A3 A4 A5 n2 c2 n3 c3 n4 c4 n5 c5 L sz (by omega) (by omega) mo).mono fun e w' ⟨he, b⟩ => ⟨by rw [he]; simp, b⟩
          · exact (may5_ok w s A2 A3 A4 A5 n2 c2 n3 c3 n4 c4 n5 c5 L sz (by omega) (by omega) mo).mono fun e w' ⟨he, b⟩ => ⟨by rw [he, ← cast_le sz 262144, decide_eq_true l1, decide_eq_true l2]; simp, b⟩
      · exact (may5_many w io sh s A2 A3 A4 A5 n2 c2 n3 c3 n4 c4 n5 c5 L sz (by omega) (by omega) mo).mono fun e w' ⟨he, b⟩ => ⟨by rw [he, decide_eq_false l2]; simp, b⟩
    · exact (may5_few w io sh s A2 A3 A4 A5 n2 c2 n3 c3 n4 c4 n5 c5 L sz (by omega) mo).mono fun e w' ⟨he, b⟩ => ⟨by rw [he, decide_eq_false l1]; simp, b⟩
  · refine (may_other w kd io sh s A2 A3 A4 A5 n2 c2 n3 c3 n4 c4 n5 c5 L sz k1 k2 k3 k4 k5 mo).mono fun e w' ⟨he, b⟩ => ⟨?_, b⟩
    rw [he, decide_eq_false (ne_of_beq_false k1), decide_eq_false (ne_of_beq_false k2), decide_eq_false (ne_of_beq_false k3), decide_eq_false (ne_of_beq_false k4), decide_eq_false (ne_of_beq_false k5)]
    simp
end Go.Proofs.Ytgokjdlemfaagaa
