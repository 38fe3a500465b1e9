/- Package value: names, texts, slices.Values: each hands back a function that goes through the texts. -/
import Derived.Test.YtgokjdlemfaagaaVlGo
namespace Go.Proofs.Ytgokjdlemfaagaa
open Go.RowKit Go.Shelf
set_option linter.unusedVariables false
attribute [local go_sem] Oper.semAt_some
theorem cell_in {w W : World} (h : Below w.heap.size w W) {p : Addr} {v : Value} (hc : w.cell? p = some v) : W.cell? p = some v := by
  obtain ⟨o, ho, _⟩ := cells_of_cell hc
  rw [h.cell (Array.getElem?_eq_some_iff.1 ho).1]
  exact hc
/-- What a maker of such a function leaves: what the function uses lies below B, or was made by the call. -/
def Made (w w' : World) (B : Nat) (f : Value) (xs : List ByteArray) : Prop := ∃ U, Goes w' U f xs ∧ ∀ k, U k → k < B ∨ (w.heap.size ≤ k ∧ k < w'.heap.size)
theorem Made.from {w w0 w' : World} {B : Nat} {f : Value} {xs : List ByteArray} (h : Made w w' B f xs) (k : w0.heap.size ≤ w.heap.size) : Made w0 w' B f xs := by
  obtain ⟨U, g, u⟩ := h
  exact ⟨U, g, fun i hi => (u i hi).imp id fun q => ⟨Nat.le_trans k q.1, q.2⟩⟩
theorem values_goes (w : World) (B Bs : Nat) (A : Option Addr) (cap n : Nat) (xs : List ByteArray) (hn : xs.length = n) (h62 : n ≤ 1048576) (hB : B ≤ w.heap.size)
    (hBs : w.cell? ⟨Bs, 0, none⟩ = some (.slice A n cap)) (hc : Cells w B A (lcells xs)) :
    Goes w (fun k => k < B ∨ k = Bs) (.func (.func 52) #[] #[.pointer (some ⟨Bs, 0, none⟩)]) xs :=
  ⟨_, _, rfl, enters_of Try.func52 (by kernel_rfl) rfl, fun T w' hb hT l J Jx W hW hJ hJx hY h0 =>
    values1_in T l Bs B A cap n h62 xs hn J Jx W (fun k q r => (hT k q).1 (.inl r)) (fun pre x W1 q r => hY pre x W1 q (by rw [hn]; exact r))
      (cell_in (below_then hb hW) hBs) (hc.below ((below_then hb hW).mono hB)) h0⟩
theorem flat_goes (w : World) (B Bs : Nat) (A : Option Addr) (cap n : Nat) (xs : List (ByteArray × ByteArray)) (hn : xs.length = n) (h62 : n ≤ 1048576) (hB : B ≤ w.heap.size)
    (hBs : w.cell? ⟨Bs, 0, none⟩ = some (.slice A n cap)) (hc : Cells w B A (fcells xs)) :
    Goes w (fun k => k < B ∨ k = Bs) (.func (.func 53) #[] #[.pointer (some ⟨Bs, 0, none⟩)]) (xs.flatMap both) :=
  ⟨_, _, rfl, enters_of Try.func53 (by kernel_rfl) rfl, fun T w' hb hT l J Jx W hW hJ hJx hY h0 =>
    flat_in T l Bs B A cap n h62 xs hn J Jx W hJ (fun k q r => (hT k q).1 (.inl r)) (fun k q => Nat.lt_of_lt_of_le (hT k q).2 hW.size) (fun pre x W1 q r => hY pre x W1 q (by rw [flat_length, hn]; exact r))
      (cell_in (below_then hb hW) hBs) (hc.below ((below_then hb hW).mono hB)) h0⟩
theorem values_any (w : World) (A : Option Addr) (n c : Nat) :
    Calls Try.prog 33 #[.slice A n c] w fun e w' => e = .returned (.func (.func 52) #[] #[.pointer (some ⟨w.heap.size, 0, none⟩)]) ∧ w.alloc (.cells #[.slice A n c] 24) = w' := by
  go_enter Try.func33, Try.ntmps33
  go_wp2_with fail
  go_ret
  exact ⟨rfl, rfl⟩
theorem flat_any (w : World) (A : Option Addr) (n c : Nat) :
    Calls Try.prog 34 #[.slice A n c] w fun e w' => e = .returned (.func (.func 53) #[] #[.pointer (some ⟨w.heap.size, 0, none⟩)]) ∧ w.alloc (.cells #[.slice A n c] 25) = w' := by
  go_enter Try.func34, Try.ntmps34
  go_wp2_with fail
  go_ret
  exact ⟨rfl, rfl⟩
set_option maxRecDepth 100000 in
set_option maxHeartbeats 1000000 in
/-- Nothing to go through. -/
theorem empty_goes (w : World) : Goes w (fun _ => False) (.func (.func 51) #[] #[]) [] :=
  ⟨_, _, rfl, enters_of Try.func51 (by kernel_rfl) rfl, fun T w' hb hT l J Jx W hW hJ hJx hY h0 => by
    show CallsIn Fence.wide 7 Try.prog 51 #[.func (.yield l) #[] #[]] W _
    refine callsIn_of_wp Try.func51 rfl trivial ?_ rfl
    simp only [Try.ntmps51, List.size_toArray, List.length_cons, List.length_nil, Nat.reduceAdd, Nat.reduceSub, Array.replicate_succ, Array.replicate_zero, List.push_toArray, List.append_toArray, List.nil_append, List.cons_append]
    gi_wp2
    go_end0
    exact ⟨⟨_, rfl⟩, .inl h0⟩⟩
set_option maxRecDepth 100000 in
set_option maxHeartbeats 1000000 in
/-- The string itself. -/
theorem self_goes (w : World) (Bs : Nat) (s : ByteArray) (hBs : w.cell? ⟨Bs, 1, none⟩ = some (.string s)) : Goes w (fun k => k = Bs) (.func (.func 32) #[] #[.pointer (some ⟨Bs, 0, none⟩)]) [s] :=
  ⟨_, _, rfl, enters_of Try.func32 (by kernel_rfl) rfl, fun T w' hb hT l J Jx W hW hJ hJx hY h0 => by
    have hc := cell_in (below_then hb hW) hBs
    show CallsIn Fence.wide 7 Try.prog 32 #[.func (.yield l) #[] #[], .pointer (some ⟨Bs, 0, none⟩)] W _
    obtain ⟨fn, tmps, assign, body, hy, hR⟩ := hY [] s W h0 (by simp)
    refine callsIn_of_wp Try.func32 rfl trivial ?_ rfl
    simp only [Try.ntmps32, List.size_toArray, List.length_cons, List.length_nil, Nat.reduceAdd, Nat.reduceSub, Array.replicate_succ, Array.replicate_zero, List.push_toArray, List.append_toArray, List.nil_append, List.cons_append]
    gi_wp2
    refine hR.mono ?_
    rintro e W3 (⟨rfl, hJ3, hk3⟩ | ⟨rfl, hJx3⟩)
    · gi_wp2
      go_end0
      exact ⟨⟨_, rfl⟩, .inl ⟨_, rfl, hJ3⟩⟩
    · gi_wp2
      go_end0
      exact ⟨⟨_, rfl⟩, .inr ⟨_, List.prefix_refl _, hJx3⟩⟩⟩
theorem each1_goes (w : World) (B Bs Bn : Nat) (A : Option Addr) (cap n : Nat) (xs : List (ByteArray × ByteArray)) (hn : xs.length = n) (h62 : n ≤ 1048576) (hB : B ≤ w.heap.size)
    (hBs : w.cell? ⟨Bs, 0, none⟩ = some (.slice A n cap)) (hBn : w.cell? ⟨Bn, 0, none⟩ = some (.func (.func 46) #[] #[])) (hc : Cells w B A (fcells xs)) :
    Goes w (fun k => k < B ∨ k = Bs ∨ k = Bn) (.func (.func 63) #[] #[.pointer (some ⟨Bs, 0, none⟩), .pointer (some ⟨Bn, 0, none⟩)]) (xs.map Prod.fst) :=
  ⟨_, _, rfl, enters_of Try.func63 (by kernel_rfl) rfl, fun T w' hb hT l J Jx W hW hJ hJx hY h0 =>
    each1_in T l Bs Bn B A cap n h62 xs hn J Jx W W (Below.refl _ _) hJ (fun k q r => (hT k q).1 (.inl r)) (fun q => (hT _ q).1 (.inr (.inr rfl))) (fun pre x W1 q r => hY pre x W1 q (by rw [List.length_map, hn]; exact r))
      (cell_in (below_then hb hW) hBs) (cell_in (below_then hb hW) hBn) (hc.below ((below_then hb hW).mono hB)) h0⟩
theorem each1_any (w : World) (A : Option Addr) (n c : Nat) (f : Value) (hf : f = .func (.func 46) #[] #[]) :
    Calls Try.prog 45 #[.slice A n c, f] w fun e w' => e = .returned (.func (.func 63) #[] #[.pointer (some ⟨w.heap.size, 0, none⟩), .pointer (some ⟨w.heap.size + 1, 0, none⟩)]) ∧ (w.alloc (.cells #[.slice A n c] 25)).alloc (.cells #[f] 88) = w' := by
  subst hf
  go_enter Try.func45, Try.ntmps45
  go_wp2_with fail
  go_ret
  exact ⟨rfl, rfl⟩
theorem each2_goes (w : World) (B Bs Bn : Nat) (A : Option Addr) (cap n : Nat) (xs : List (ByteArray × Int)) (hn : xs.length = n) (h62 : n ≤ 1048576) (hB : B ≤ w.heap.size)
    (hBs : w.cell? ⟨Bs, 0, none⟩ = some (.slice A n cap)) (hBn : w.cell? ⟨Bn, 0, none⟩ = some (.func (.func 48) #[] #[])) (hc : Cells w B A (scells xs)) :
    Goes w (fun k => k < B ∨ k = Bs ∨ k = Bn) (.func (.func 64) #[] #[.pointer (some ⟨Bs, 0, none⟩), .pointer (some ⟨Bn, 0, none⟩)]) (xs.map Prod.fst) :=
  ⟨_, _, rfl, enters_of Try.func64 (by kernel_rfl) rfl, fun T w' hb hT l J Jx W hW hJ hJx hY h0 =>
    each2_in T l Bs Bn B A cap n h62 xs hn J Jx W W (Below.refl _ _) hJ (fun k q r => (hT k q).1 (.inl r)) (fun q => (hT _ q).1 (.inr (.inr rfl))) (fun pre x W1 q r => hY pre x W1 q (by rw [List.length_map, hn]; exact r))
      (cell_in (below_then hb hW) hBs) (cell_in (below_then hb hW) hBn) (hc.below ((below_then hb hW).mono hB)) h0⟩
theorem each2_any (w : World) (A : Option Addr) (n c : Nat) (f : Value) (hf : f = .func (.func 48) #[] #[]) :
    Calls Try.prog 47 #[.slice A n c, f] w fun e w' => e = .returned (.func (.func 64) #[] #[.pointer (some ⟨w.heap.size, 0, none⟩), .pointer (some ⟨w.heap.size + 1, 0, none⟩)]) ∧ (w.alloc (.cells #[.slice A n c] 26)).alloc (.cells #[f] 90) = w' := by
  subst hf
  go_enter Try.func47, Try.ntmps47
  go_wp2_with fail
  go_ret
  exact ⟨rfl, rfl⟩
theorem each3_goes (w : World) (B Bs Bn : Nat) (A : Option Addr) (cap n : Nat) (xs : List (ByteArray × Nat × Nat)) (hn : xs.length = n) (h62 : n ≤ 1048576) (hB : B ≤ w.heap.size)
    (hBs : w.cell? ⟨Bs, 0, none⟩ = some (.slice A n cap)) (hBn : w.cell? ⟨Bn, 0, none⟩ = some (.func (.func 50) #[] #[])) (hc : Cells w B A (pcells xs)) :
    Goes w (fun k => k < B ∨ k = Bs ∨ k = Bn) (.func (.func 65) #[] #[.pointer (some ⟨Bs, 0, none⟩), .pointer (some ⟨Bn, 0, none⟩)]) (xs.map Prod.fst) :=
  ⟨_, _, rfl, enters_of Try.func65 (by kernel_rfl) rfl, fun T w' hb hT l J Jx W hW hJ hJx hY h0 =>
    each3_in T l Bs Bn B A cap n h62 xs hn J Jx W W (Below.refl _ _) hJ (fun k q r => (hT k q).1 (.inl r)) (fun q => (hT _ q).1 (.inr (.inr rfl))) (fun pre x W1 q r => hY pre x W1 q (by rw [List.length_map, hn]; exact r))
      (cell_in (below_then hb hW) hBs) (cell_in (below_then hb hW) hBn) (hc.below ((below_then hb hW).mono hB)) h0⟩
theorem each3_any (w : World) (A : Option Addr) (n c : Nat) (f : Value) (hf : f = .func (.func 50) #[] #[]) :
    Calls Try.prog 49 #[.slice A n c, f] w fun e w' => e = .returned (.func (.func 65) #[] #[.pointer (some ⟨w.heap.size, 0, none⟩), .pointer (some ⟨w.heap.size + 1, 0, none⟩)]) ∧ (w.alloc (.cells #[.slice A n c] 27)).alloc (.cells #[f] 92) = w' := by
  subst hf
  go_enter Try.func49, Try.ntmps49
  go_wp2_with fail
  go_ret
  exact ⟨rfl, rfl⟩
theorem values_made (w : World) (B : Nat) (A : Option Addr) (cap n : Nat) (xs : List ByteArray) (hn : xs.length = n) (h62 : n ≤ 1048576) (hB : B ≤ w.heap.size) (hc : Cells w B A (lcells xs)) :
    Calls Try.prog 33 #[.slice A n cap] w fun e w' => ∃ f, e = .returned f ∧ Below w.heap.size w w' ∧ Made w w' B f xs :=
  (values_any w A n cap).mono fun e w' ⟨he, hw⟩ => by
    subst hw
    have hb : Below w.heap.size w (w.alloc (.cells #[.slice A n cap] 24)) := (Below.refl _ w).alloc (Nat.le_refl _) _
    refine ⟨_, he, hb, _, values_goes _ B _ A cap n xs hn h62 (by simp; omega) (by simp) (hc.below (hb.mono hB)), fun k hk => ?_⟩
    rcases hk with hk | rfl
    · exact .inl hk
    · exact .inr ⟨Nat.le_refl _, by simp⟩
theorem flat_made (w : World) (B : Nat) (A : Option Addr) (cap n : Nat) (xs : List (ByteArray × ByteArray)) (hn : xs.length = n) (h62 : n ≤ 1048576) (hB : B ≤ w.heap.size) (hc : Cells w B A (fcells xs)) :
    Calls Try.prog 34 #[.slice A n cap] w fun e w' => ∃ f, e = .returned f ∧ Below w.heap.size w w' ∧ Made w w' B f (xs.flatMap both) :=
  (flat_any w A n cap).mono fun e w' ⟨he, hw⟩ => by
    subst hw
    have hb : Below w.heap.size w (w.alloc (.cells #[.slice A n cap] 25)) := (Below.refl _ w).alloc (Nat.le_refl _) _
    refine ⟨_, he, hb, _, flat_goes _ B _ A cap n xs hn h62 (by simp; omega) (by simp) (hc.below (hb.mono hB)), fun k hk => ?_⟩
    rcases hk with hk | rfl
    · exact .inl hk
    · exact .inr ⟨Nat.le_refl _, by simp⟩
theorem each1_made (w : World) (B : Nat) (A : Option Addr) (cap n : Nat) (xs : List (ByteArray × ByteArray)) (hn : xs.length = n) (h62 : n ≤ 1048576) (hB : B ≤ w.heap.size) (hc : Cells w B A (fcells xs)) :
    Calls Try.prog 45 #[.slice A n cap, .func (.func 46) #[] #[]] w fun e w' => ∃ f, e = .returned f ∧ Below w.heap.size w w' ∧ Made w w' B f (xs.map Prod.fst) :=
  (each1_any w A n cap _ rfl).mono fun e w' ⟨he, hw⟩ => by
    subst hw
    have hb : Below w.heap.size w ((w.alloc (.cells #[.slice A n cap] 25)).alloc (.cells #[.func (.func 46) #[] #[]] 88)) := ((Below.refl _ w).alloc (Nat.le_refl _) _).alloc (by simp) _
    refine ⟨_, he, hb, _, each1_goes _ B _ _ A cap n xs hn h62 (by simp; omega) (by simp) (by simp) (hc.below (hb.mono hB)), fun k hk => ?_⟩
    rcases hk with hk | rfl | rfl
    · exact .inl hk
    · exact .inr ⟨Nat.le_refl _, by simp; omega⟩
    · exact .inr ⟨by omega, by simp⟩
theorem each2_made (w : World) (B : Nat) (A : Option Addr) (cap n : Nat) (xs : List (ByteArray × Int)) (hn : xs.length = n) (h62 : n ≤ 1048576) (hB : B ≤ w.heap.size) (hc : Cells w B A (scells xs)) :
    Calls Try.prog 47 #[.slice A n cap, .func (.func 48) #[] #[]] w fun e w' => ∃ f, e = .returned f ∧ Below w.heap.size w w' ∧ Made w w' B f (xs.map Prod.fst) :=
  (each2_any w A n cap _ rfl).mono fun e w' ⟨he, hw⟩ => by
    subst hw
    have hb : Below w.heap.size w ((w.alloc (.cells #[.slice A n cap] 26)).alloc (.cells #[.func (.func 48) #[] #[]] 90)) := ((Below.refl _ w).alloc (Nat.le_refl _) _).alloc (by simp) _
    refine ⟨_, he, hb, _, each2_goes _ B _ _ A cap n xs hn h62 (by simp; omega) (by simp) (by simp) (hc.below (hb.mono hB)), fun k hk => ?_⟩
    rcases hk with hk | rfl | rfl
    · exact .inl hk
    · exact .inr ⟨Nat.le_refl _, by simp; omega⟩
    · exact .inr ⟨by omega, by simp⟩
theorem each3_made (w : World) (B : Nat) (A : Option Addr) (cap n : Nat) (xs : List (ByteArray × Nat × Nat)) (hn : xs.length = n) (h62 : n ≤ 1048576) (hB : B ≤ w.heap.size) (hc : Cells w B A (pcells xs)) :
    Calls Try.prog 49 #[.slice A n cap, .func (.func 50) #[] #[]] w fun e w' => ∃ f, e = .returned f ∧ Below w.heap.size w w' ∧ Made w w' B f (xs.map Prod.fst) :=
  (each3_any w A n cap _ rfl).mono fun e w' ⟨he, hw⟩ => by
    subst hw
    have hb : Below w.heap.size w ((w.alloc (.cells #[.slice A n cap] 27)).alloc (.cells #[.func (.func 50) #[] #[]] 92)) := ((Below.refl _ w).alloc (Nat.le_refl _) _).alloc (by simp) _
    refine ⟨_, he, hb, _, each3_goes _ B _ _ A cap n xs hn h62 (by simp; omega) (by simp) (by simp) (hc.below (hb.mono hB)), fun k hk => ?_⟩
    rcases hk with hk | rfl | rfl
    · exact .inl hk
    · exact .inr ⟨Nat.le_refl _, by simp; omega⟩
    · exact .inr ⟨by omega, by simp⟩
set_option maxRecDepth 20000 in
set_option maxHeartbeats 1000000 in
/-- names. -/
theorem names_any (w : World) (B : Nat) (v : Value) (x : Vl) (h : Vr w B v x) (hB : B ≤ w.heap.size) (l3 : x.fields.length ≤ 1048576) (l4 : x.scores.length ≤ 1048576) (l5 : x.points.length ≤ 1048576) :
    Calls Try.prog 31 #[v] w fun e w' => ∃ f, e = .returned f ∧ Below w.heap.size w w' ∧ Made w w' B f x.names := by
  obtain ⟨A2, c2, A3, c3, A4, c4, A5, c5, rfl, h1, h2, h3, h4⟩ := h.shows
  have al : ∀ o, Below w.heap.size w (w.alloc o) := fun o => (Below.refl _ w).alloc (Nat.le_refl _) o
  have E1 := fun o => each1_made (w.alloc o) B A3 c3 _ x.fields rfl l3 (by simp; omega) (h2.below ((al o).mono hB))
  have E2 := fun o => each2_made (w.alloc o) B A4 c4 _ x.scores rfl l4 (by simp; omega) (h3.below ((al o).mono hB))
  have E3 := fun o => each3_made (w.alloc o) B A5 c5 _ x.points rfl l5 (by simp; omega) (h4.below ((al o).mono hB))
  have e0 : Made w w B (.func (.func 51) #[] #[]) [] := ⟨_, empty_goes w, fun k hk => hk.elim⟩
  have eo : ∀ o, Made w (w.alloc o) B (.func (.func 51) #[] #[]) [] := fun o => ⟨_, empty_goes _, fun k hk => hk.elim⟩
  obtain ⟨kd, s, ls, fs, ss, ps⟩ := x
  simp only [Vl.names] at E1 E2 E3 eo l3 l4 l5 ⊢
  generalize ls.length = n2 at *
  generalize fs.length = n3 at *
  generalize ss.length = n4 at *
  generalize ps.length = n5 at *
  clear h h1 h2 h3 h4 e0
  rcases kind_cases kd with rfl | rfl | rfl | rfl | rfl | ⟨k1, k2, k3, k4, k5⟩
  · go_enter Try.func31, Try.ntmps31
    go_wp2_with fail
    go_ret
    exact ⟨_, rfl, al _, eo _⟩
  · go_enter Try.func31, Try.ntmps31
    go_wp2_with fail
    go_ret
    exact ⟨_, rfl, al _, eo _⟩
  · go_enter Try.func31, Try.ntmps31
    go_wp2_with (go_at_call 45; refine (E1 _).mono ?_; rintro e w2 ⟨f, rfl, hb2, hm⟩)
    go_ret
    exact ⟨f, rfl, below_then (al _) hb2, hm.from (al _).size⟩
  · go_enter Try.func31, Try.ntmps31
    go_wp2_with (go_at_call 47; refine (E2 _).mono ?_; rintro e w2 ⟨f, rfl, hb2, hm⟩)
    go_ret
    exact ⟨f, rfl, below_then (al _) hb2, hm.from (al _).size⟩
  · go_enter Try.func31, Try.ntmps31
    go_wp2_with (go_at_call 49; refine (E3 _).mono ?_; rintro e w2 ⟨f, rfl, hb2, hm⟩)
    go_ret
    exact ⟨f, rfl, below_then (al _) hb2, hm.from (al _).size⟩
  · rw [if_neg (ne_of_beq_false k3), if_neg (ne_of_beq_false k4), if_neg (ne_of_beq_false k5)]
    go_enter Try.func31, Try.ntmps31
    go_wp2_with fail
    go_ret
    exact ⟨_, rfl, al _, eo _⟩
set_option maxRecDepth 20000 in
set_option maxHeartbeats 1000000 in
/-- texts. -/
theorem texts_any (w : World) (B : Nat) (v : Value) (x : Vl) (h : Vr w B v x) (hB : B ≤ w.heap.size) (l2 : x.list.length ≤ 1048576) (l3 : x.fields.length ≤ 1048576) (l4 : x.scores.length ≤ 1048576) (l5 : x.points.length ≤ 1048576) :
    Calls Try.prog 16 #[v] w fun e w' => ∃ f, e = .returned f ∧ Below w.heap.size w w' ∧ Made w w' B f x.texts := by
  have al : ∀ o, Below w.heap.size w (w.alloc o) := fun o => (Below.refl _ w).alloc (Nat.le_refl _) o
  have NM := fun o => names_any (w.alloc o) B v x (h.below ((al o).mono hB)) (by simp; omega) l3 l4 l5
  obtain ⟨A2, c2, A3, c3, A4, c4, A5, c5, rfl, h1, h2, h3, h4⟩ := h.shows
  have E0 := fun o => values_made (w.alloc o) B A2 c2 _ x.list rfl l2 (by simp; omega) (h1.below ((al o).mono hB))
  have E1 := fun o => flat_made (w.alloc o) B A3 c3 _ x.fields rfl l3 (by simp; omega) (h2.below ((al o).mono hB))
  have eo : ∀ (t : TypeId) (a b c d f : Value), Made w (w.alloc (.cells #[a, .string x.text, b, c, d, f] t)) B (.func (.func 32) #[] #[.pointer (some ⟨w.heap.size, 0, none⟩)]) [x.text] := fun t a b c d f =>
    ⟨_, self_goes _ w.heap.size x.text (by simp), fun k hk => .inr (by subst hk; exact ⟨Nat.le_refl _, by simp⟩)⟩
  have tn : x.kind ≠ 1 → x.kind ≠ 2 → x.kind ≠ 3 → x.texts = x.names := fun a b c => by unfold Vl.texts; rw [if_neg a, if_neg b, if_neg c]
  have t3 : x.kind = 3 → x.texts = x.fields.flatMap both := fun a => by unfold Vl.texts; rw [if_neg (by rw [a]; decide), if_neg (by rw [a]; decide), if_pos a]; rfl
  have t2 : x.kind = 2 → x.texts = x.list := fun a => by unfold Vl.texts; rw [if_neg (by rw [a]; decide), if_pos a]
  have t1 : x.kind = 1 → x.texts = [x.text] := fun a => by unfold Vl.texts; rw [if_pos a]
  generalize x.names = nm at *
  generalize x.texts = tx at *
  obtain ⟨kd, s, ls, fs, ss, ps⟩ := x
  simp only at NM E0 E1 eo l2 l3 l4 l5 tn t1 t2 t3 ⊢
  generalize ls.length = n2 at *
  generalize fs.length = n3 at *
  generalize ss.length = n4 at *
  generalize ps.length = n5 at *
  clear h h1 h2 h3 h4
  rcases kind_cases kd with rfl | rfl | rfl | rfl | rfl | ⟨k1, k2, k3, k4, k5⟩
  · obtain rfl := t1 rfl
    clear t1 t2 t3 tn
    go_enter Try.func16, Try.ntmps16
    go_wp2_with fail
    go_ret
    exact ⟨_, rfl, al _, eo _ _ _ _ _ _⟩
  · obtain rfl := t2 rfl
    clear t1 t2 t3 tn
    go_enter Try.func16, Try.ntmps16
    go_wp2_with (go_at_call 33; refine (E0 _).mono ?_; rintro e w2 ⟨f, rfl, hb2, hm⟩)
    go_ret
    exact ⟨f, rfl, below_then (al _) hb2, hm.from (al _).size⟩
  · obtain rfl := t3 rfl
    clear t1 t2 t3 tn
    go_enter Try.func16, Try.ntmps16
    go_wp2_with (go_at_call 34; refine (E1 _).mono ?_; rintro e w2 ⟨f, rfl, hb2, hm⟩)
    go_ret
    exact ⟨f, rfl, below_then (al _) hb2, hm.from (al _).size⟩
  · obtain rfl := tn (by decide) (by decide) (by decide)
    clear t1 t2 t3 tn
    go_enter Try.func16, Try.ntmps16
    go_wp2_with (go_at_call 31; refine (NM _).mono ?_; rintro e w2 ⟨f, rfl, hb2, hm⟩)
    go_ret
    exact ⟨f, rfl, below_then (al _) hb2, hm.from (al _).size⟩
  · obtain rfl := tn (by decide) (by decide) (by decide)
    clear t1 t2 t3 tn
    go_enter Try.func16, Try.ntmps16
    go_wp2_with (go_at_call 31; refine (NM _).mono ?_; rintro e w2 ⟨f, rfl, hb2, hm⟩)
    go_ret
    exact ⟨f, rfl, below_then (al _) hb2, hm.from (al _).size⟩
  · obtain rfl := tn (ne_of_beq_false k1) (ne_of_beq_false k2) (ne_of_beq_false k3)
    clear t1 t2 t3 tn
    go_enter Try.func16, Try.ntmps16
    go_wp2_with (go_at_call 31; refine (NM _).mono ?_; rintro e w2 ⟨f, rfl, hb2, hm⟩)
    go_ret
    exact ⟨f, rfl, below_then (al _) hb2, hm.from (al _).size⟩
end Go.Proofs.Ytgokjdlemfaagaa
