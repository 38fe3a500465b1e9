/- Package table: a new array of slots; what fit does. -/
import Derived.Test.YtedpanfdkdbblaaTbMove
namespace Go.Proofs.Ytedpanfdkdbblaa
open Go.RowKit
set_option linter.unusedVariables false
theorem infoE : (Try.prog.info? 58).map (fun i => (i.zero, i.size, i.bytes)) = some (some (.pointer none), 1, 8) := by kernel_rfl
/-- What make lays for so many slots. -/
def row0 (n : Nat) : Array Value := (List.replicate n (Value.pointer none)).toArray
theorem made_slots (n : Nat) (w : World) (hn : n ≤ 1048576) : (Instr.makeSlice 48 (.int .i64 (n : Int)) (.int .i64 (n : Int))).run Try.prog w = .ok (.slice (some ⟨w.heap.size, 0, none⟩) n n) (w.alloc (.cells (row0 n) 58)) := by
  obtain ⟨i, hi, hz, h1, h2⟩ := info_parts infoE
  have h := run_make (P := Try.prog) w 48 58 i _ Try.underlying48 hi hz .i64 .i64 (n : Int) (n : Int) (by omega) (Int.le_refl _) (by rw [h2]; omega) (by omega)
  have e : madeCells (Value.pointer none).cells (n * i.size) = row0 n := by
    rw [h1]
    apply Array.ext
    · simp [madeCells, row0]
    · intro j h1 h2
      simp [madeCells, row0, Value.cells, Nat.mod_one]
  have t : ((n : Int)).toNat = n := by omega
  rw [h, t, e]
theorem arr_new (w : World) (n : Nat) (t : TypeId) : Arr (w.alloc (.cells (row0 n) t)) w.heap.size (List.replicate n []) := by
  have lt : w.heap.size < (w.alloc (.cells (row0 n) t)).heap.size := by
    show w.heap.size < (w.heap.push _).size
    simp
  refine ⟨lt, fun i => by rw [World.frozen?_alloc_new], fun i hi => ⟨?_, by simp [Seg], by rw [World.frozen?_alloc_new], lt⟩⟩
  have hi' : i < n := by simpa using hi
  rw [World.cell?_alloc_new]
  simp [row0, hd, hi']
theorem chainAt_new (n i : Nat) : chainAt (List.replicate n ([] : List Nd)) i = [] := by
  unfold chainAt
  rw [List.getD_eq_getElem?_getD, List.getElem?_replicate]
  split <;> rfl
theorem flat_new (n : Nat) : (List.replicate n ([] : List Nd)).flatten = [] := by simp
theorem blocks_lt {w : World} {q : Nat} {T : Tb} (h : Lies w q T) : ∀ k ∈ blocks q T, k < w.heap.size := fun k hk => by
  unfold blocks at hk
  rcases List.mem_cons.1 hk with e | hk
  · rw [e]; exact h.head.lt
  rcases List.mem_cons.1 hk with e | hk
  · rw [e]; exact h.a1.lt
  rcases List.mem_append.1 hk with hk | hk
  · rcases e : T.two with _ | ⟨B, cs⟩
    · rw [e] at hk; cases hk
    · rw [e] at hk
      rw [List.mem_singleton.1 hk]
      exact (h.a2 B cs e).lt
  · obtain ⟨x, hx, rfl⟩ := List.mem_map.1 hk
    have arr : ∀ {B : Nat} {cs : List (List Nd)}, Arr w B cs → ∀ x ∈ cs.flatten, x.b < w.heap.size := fun ha x hx => by
      obtain ⟨l, hl, hx⟩ := List.mem_flatten.1 hx
      obtain ⟨i, hi, e⟩ := List.getElem_of_mem hl
      exact (ha.chain i hi).seg.lt x (by rw [e]; exact hx)
    unfold nodes at hx
    rcases List.mem_append.1 hx with hx | hx
    · exact arr h.a1 x hx
    · rcases e : T.two with _ | ⟨B, cs⟩
      · rw [e] at hx; cases hx
      · rw [e] at hx
        exact arr (h.a2 B cs e) x hx
/-- The second array begun. -/
theorem Lies.begin {w : World} {q : Nat} {T : Tb} (h : Lies w q T) (ok : Ok q T) (e0 : T.two = none) (n : Nat) :
    ∃ T', Lies ((w.alloc (.cells (row0 n) 58)).setCell ⟨q, 1, none⟩ (.slice (some ⟨w.heap.size, 0, none⟩) n n)) q T' ∧ Ok q T' ∧ (∀ k ∈ blocks q T', k ∈ blocks q T ∨ w.heap.size ≤ k) ∧ nodes T' = nodes T ∧ T'.c = T.c ∧ T'.count = T.count ∧ T'.work = T.work ∧ T'.B = T.B ∧ T'.passed = T.passed ∧
      (∃ cs, T'.two = some (w.heap.size, cs) ∧ cs.length = n) ∧ Only (fun k => k ∈ blocks q T) w ((w.alloc (.cells (row0 n) 58)).setCell ⟨q, 1, none⟩ (.slice (some ⟨w.heap.size, 0, none⟩) n n)) := by
  have al : Below w.heap.size w (w.alloc (.cells (row0 n) 58)) := (Below.refl _ w).alloc (Nat.le_refl _) _
  have L1 := h.below al
  have t : Turn (fun a => a.block = q) (w.alloc (.cells (row0 n) 58)) ((w.alloc (.cells (row0 n) 58)).setCell ⟨q, 1, none⟩ (.slice (some ⟨w.heap.size, 0, none⟩) n n)) := Turn.set (D := fun a => a.block = q) (a := ⟨q, 1, none⟩) _ rfl _
  have bl := blocks_lt h
  have nd : nodes { T with two := some (w.heap.size, List.replicate n []) } = nodes T := by
    unfold nodes
    rw [e0]
    show T.c.flatten ++ (List.replicate n []).flatten = T.c.flatten ++ []
    rw [flat_new]
  have hb : (blocks q { T with two := some (w.heap.size, List.replicate n []) }).Perm (w.heap.size :: blocks q T) := by
    unfold blocks
    rw [nd, e0]
    show (q :: T.B :: w.heap.size :: List.map Nd.b (nodes T)).Perm (w.heap.size :: q :: T.B :: List.map Nd.b (nodes T))
    exact ((List.Perm.swap _ _ _).cons _).trans (List.Perm.swap _ _ _)
  have hh : Head ((w.alloc (.cells (row0 n) 58)).setCell ⟨q, 1, none⟩ (.slice (some ⟨w.heap.size, 0, none⟩) n n)) q { T with two := some (w.heap.size, List.replicate n []) } := by
    have := L1.head.setTwo (some (w.heap.size, List.replicate n []))
    unfold arrV at this
    dsimp only at this
    rw [List.length_replicate] at this
    exact this
  refine ⟨{ T with two := some (w.heap.size, List.replicate n []) }, ⟨hh, ?_, fun B cs e => ?_⟩, ⟨?_, ok.p1, fun B cs e i x hx => ?_, by rw [nd]; exact ok.names, by rw [nd]; exact ok.short, by rw [nd]; exact ok.cnt, ok.left, ok.pass, fun e => (nomatch e)⟩, fun k hk => ?_, nd, rfl, rfl, rfl, rfl, rfl, ⟨_, rfl, List.length_replicate⟩, ?_⟩
  · exact L1.a1.turn t (fun i e => ok.qB e) fun x hx i e => ok.node_q (mem1 hx) e
  · injection e with e
    injection e with e1 e2
    subst e1; subst e2
    exact (arr_new w n _).turn t (fun i e => by have : w.heap.size = q := e; have := h.head.lt; omega) (fun x hx => by rw [flat_new] at hx; cases hx)
  · exact hb.nodup_iff.2 (List.nodup_cons.2 ⟨fun m => by have := bl _ m; omega, ok.apart⟩)
  · injection e with e
    injection e with e1 e2
    subst e2
    rw [chainAt_new] at hx
    cases hx
  · rcases List.mem_cons.1 (hb.mem_iff.1 hk) with e | e
    · exact .inr (by omega)
    · exact .inl e
  · exact (Only.of_below (F := fun k => k ∈ blocks q T) al).trans (t.only (F := fun k => k ∈ blocks q T) fun a e => by rw [e]; exact List.mem_cons_self) fun k hk => .inl hk
/-- How many slots the second array has behind fit. -/
def fitted (s1 : Nat) (s2 : Option Nat) (count : Nat) : Option Nat := if s2.isSome then s2 else if s1 < count then some (2 * s1) else if 8 < s1 ∧ count < s1 / 8 then some (s1 / 2) else none
def sizeOf2 (T : Tb) : Option Nat := T.two.map fun o => o.2.length
/-- What fit leaves. -/
structure Fitted (q : Nat) (H : Nat) (T T' : Tb) : Prop where
  ok : Ok q T'
  sub : ∀ k ∈ blocks q T', k ∈ blocks q T ∨ H ≤ k
  nodes : nodes T' = nodes T
  c : T'.c = T.c
  count : T'.count = T.count
  work : T'.work = T.work
  two : sizeOf2 T' = fitted T.c.length (sizeOf2 T) T.count
theorem Fitted.same {q H : Nat} {T : Tb} (ok : Ok q T) (e : fitted T.c.length (sizeOf2 T) T.count = sizeOf2 T) : Fitted q H T T := ⟨ok, fun k hk => .inl hk, rfl, rfl, rfl, rfl, e.symm⟩
set_option maxRecDepth 20000 in
set_option maxHeartbeats 2000000 in
theorem fit_any (w : World) (q : Nat) (T : Tb) (h : Lies w q T) (ok : Ok q T) (f : Fits T) (hc : T.c.length ≤ 65536) :
    Calls Try.prog 30 #[.pointer (some ⟨q, 0, none⟩)] w fun e w' => e = .returned (.tuple #[]) ∧ ∃ T', Lies w' q T' ∧ Fitted q w.heap.size T T' ∧ Only (fun k => k ∈ blocks q T) w w' := by
  have c0 := h.head.first
  have c1 := h.head.second
  have c3 := h.head.count
  have f1 := h.head.free 1
  have ql := h.head.lt
  have HL := Lib.hid h
  have HK := Lib.hid ok
  have k0 := f.k0
  have k9 := f.c9
  obtain ⟨n, hn⟩ : ∃ n, T.c.length = n := ⟨_, rfl⟩
  obtain ⟨m, hm⟩ : ∃ m, T.count = m := ⟨_, rfl⟩
  obtain ⟨o, ho⟩ : ∃ o, T.two = o := ⟨_, rfl⟩
  have HN := Lib.hid (And.intro hn (And.intro hm ho))
  rw [ho] at c1
  rw [hn] at c0 hc k0
  rw [hm] at c3 k9
  clear f h ok hn hm ho
  have n0 : (0 : Int) < (n : Int) := by omega
  have n9 : (n : Int) ≤ 65536 := by omega
  have m0 : (0 : Int) ≤ (m : Int) := by omega
  have m9 : (m : Int) ≤ 1048576 := by omega
  go_enter Try.func30, Try.ntmps30
  go_wp2_with fail
  go_at_call 21
  refine (moving_any _ q _ HL.out.head).mono ?_
  rintro e w1 ⟨rfl, rfl⟩
  rw [HN.out.2.2]
  rcases o with _ | ⟨B, cs⟩
  · rw [show (none : Option (Nat × List (List Nd))).isSome = false from rfl]
    replace c1 : w1.cell? ⟨q, 1, none⟩ = some (.slice none 0 0) := c1
    have S0 : Hid (sizeOf2 T = none) := by show T.two.map _ = none; rw [HN.out.2.2]; rfl
    by_cases hgt : n < m
    · have g1 : (n : Int) < (m : Int) := by omega
      have mk := made_slots (2 * n) w1 (by omega)
      have ec : ((2 * n : Nat) : Int) = 2 * (n : Int) := by omega
      rw [ec] at mk
      have BG := Lib.hid (HL.out.begin HK.out HN.out.2.2 (2 * n))
      have FT : Hid (fitted T.c.length (sizeOf2 T) T.count = some (2 * n)) := by
        show fitted T.c.length (sizeOf2 T) T.count = some (2 * n)
        rw [S0.out, HN.out.1, HN.out.2.1]
        simp [fitted, hgt]
      clear hgt ec
      go_wp2_with fail
      go_end0
      obtain ⟨T', l, k, sb, nd, e1, e2, e3, e4, e5, ⟨cs, e6, e7⟩, oo⟩ := BG.out
      rw [World.setCell_alloc_past _ _ _ _ HL.out.head.lt] at l oo
      refine ⟨rfl, T', l, ⟨k, sb, nd, e1, e2, e3, ?_⟩, oo⟩
      rw [FT.out]
      unfold sizeOf2
      rw [e6]
      exact congrArg some e7
    · have g1 : (m : Int) ≤ (n : Int) := by omega
      by_cases h8 : 8 < n
      · have g2 : (8 : Int) < (n : Int) := by omega
        obtain ⟨d, hd⟩ : ∃ d, n / 8 = d := ⟨_, rfl⟩
        have ed : (n : Int) / 8 = (d : Int) := by omega
        have d9 : (d : Int) ≤ 65536 := by omega
        have d0 : (0 : Int) ≤ (d : Int) := by omega
        by_cases hlt : m < d
        · have g3 : (m : Int) < (d : Int) := by omega
          have mk := made_slots (n / 2) w1 (by omega)
          have ec : ((n / 2 : Nat) : Int) = (n : Int) / 2 := by omega
          rw [ec] at mk
          have BG := Lib.hid (HL.out.begin HK.out HN.out.2.2 (n / 2))
          have FT : Hid (fitted T.c.length (sizeOf2 T) T.count = some (n / 2)) := by
            show fitted T.c.length (sizeOf2 T) T.count = some (n / 2)
            rw [S0.out, HN.out.1, HN.out.2.1]
            simp [fitted, hgt, h8, hd, hlt]
          clear hgt ec h8 hlt
          go_wp2_with fail
          go_end0
          obtain ⟨T', l, k, sb, nd, e1, e2, e3, e4, e5, ⟨cs, e6, e7⟩, oo⟩ := BG.out
          rw [World.setCell_alloc_past _ _ _ _ HL.out.head.lt] at l oo
          refine ⟨rfl, T', l, ⟨k, sb, nd, e1, e2, e3, ?_⟩, oo⟩
          rw [FT.out]
          unfold sizeOf2
          rw [e6]
          exact congrArg some e7
        · have g3 : (d : Int) ≤ (m : Int) := by omega
          have FT : Hid (fitted T.c.length (sizeOf2 T) T.count = sizeOf2 T) := by
            show fitted T.c.length (sizeOf2 T) T.count = sizeOf2 T
            rw [S0.out, HN.out.1, HN.out.2.1]
            simp [fitted, hgt, h8, hd, hlt]
          clear hgt h8 hlt
          go_wp2_with fail
          go_end0
          exact ⟨rfl, T, HL.out, Fitted.same HK.out FT.out, Only.refl _ _⟩
      · have g2 : (n : Int) ≤ 8 := by omega
        have FT : Hid (fitted T.c.length (sizeOf2 T) T.count = sizeOf2 T) := by
          show fitted T.c.length (sizeOf2 T) T.count = sizeOf2 T
          rw [S0.out, HN.out.1, HN.out.2.1]
          simp [fitted, hgt, h8]
        clear hgt h8
        go_wp2_with fail
        go_end0
        exact ⟨rfl, T, HL.out, Fitted.same HK.out FT.out, Only.refl _ _⟩
  · rw [show (some (B, cs)).isSome = true from rfl]
    have FT : Hid (fitted T.c.length (sizeOf2 T) T.count = sizeOf2 T) := by
      show fitted T.c.length (sizeOf2 T) T.count = sizeOf2 T
      unfold sizeOf2
      rw [HN.out.2.2]
      rfl
    go_wp2_with fail
    go_end0
    exact ⟨rfl, T, HL.out, Fitted.same HK.out FT.out, Only.refl _ _⟩
end Go.Proofs.Ytedpanfdkdbblaa
