/- The law ScopeShadows walked (printed by genscX.py). -/
import Derived.Test.YtclfjkleijkekaaScWx
namespace Go.Proofs.Ytclfjkleijkekaa
open Go.RowKit PrM
set_option linter.unusedVariables false
set_option linter.unusedSimpArgs false
theorem mod6 (k : Int) : ∃ m : Nat, m < 6 ∧ (wrap64 (k.tmod 6 + 6)).tmod 6 = (m : Int) := by
  have h1 : -6 < k.tmod 6 := Int.lt_tmod_of_pos k (by omega)
  have h2 : k.tmod 6 < 6 := Int.tmod_lt_of_pos k (by omega)
  have e : wrap64 (k.tmod 6 + 6) = k.tmod 6 + 6 := by unfold wrap64; omega
  rw [e, Int.tmod_eq_emod_of_nonneg (by omega)]
  exact ⟨((k.tmod 6 + 6) % 6).toNat, by omega, by omega⟩
theorem mod5u (p : Int) : ∃ k : Nat, k < 5 ∧ wrap64 ((IntKind.u64.wrap p).tmod 5) = (k : Int) := by
  obtain ⟨N, hN⟩ : ∃ N : Nat, IntKind.u64.wrap p = (N : Int) := ⟨(IntKind.u64.wrap p).toNat, by
    have : 0 ≤ IntKind.u64.wrap p := by rw [IntKind.wrap_u64]; omega
    omega⟩
  refine ⟨N % 5, Nat.mod_lt _ (by omega), ?_⟩
  rw [hN, show ((5 : Int)) = ((5 : Nat) : Int) from rfl, ← Int.ofNat_tmod]
  have : N % 5 < 5 := Nat.mod_lt _ (by omega)
  unfold wrap64; omega
def namesY : List ByteArray := [⟨#[116, 121, 112, 101]⟩, ⟨#[99, 97, 108, 108]⟩, ⟨#[120]⟩, ⟨#[75, 69, 89, 83]⟩, ⟨#[101, 114, 114, 111, 114]⟩, ⟨#[121, 121]⟩]
def nN (r : Nat) : ByteArray := namesY.getD r ⟨#[]⟩
theorem litN (r : Nat) (h : r < ([Value.string ⟨#[116, 121, 112, 101]⟩, Value.string ⟨#[99, 97, 108, 108]⟩, Value.string ⟨#[120]⟩, Value.string ⟨#[75, 69, 89, 83]⟩, Value.string ⟨#[101, 114, 114, 111, 114]⟩, Value.string ⟨#[121, 121]⟩] : List Value).length) : ([Value.string ⟨#[116, 121, 112, 101]⟩, Value.string ⟨#[99, 97, 108, 108]⟩, Value.string ⟨#[120]⟩, Value.string ⟨#[75, 69, 89, 83]⟩, Value.string ⟨#[101, 114, 114, 111, 114]⟩, Value.string ⟨#[121, 121]⟩] : List Value)[r] = .string (nN r) := by
  refine at_of h ?_
  show (namesY.map Value.string)[r]? = _
  have h' : r < namesY.length := h
  rw [List.getElem?_map, List.getElem?_eq_getElem h']
  unfold nN
  rw [List.getD_eq_getElem?_getD, List.getElem?_eq_getElem h']
  rfl
def shY (s : ByteArray) : List ByteArray := [((((⟨#[100, 111, 32, 108, 111, 99, 97, 108, 32]⟩ ++ s) ++ ⟨#[32, 61, 32, 49, 32]⟩) ++ s) ++ ⟨#[32, 61, 32, 50, 32, 101, 110, 100, 32]⟩), ((((⟨#[102, 111, 114, 32]⟩ ++ s) ++ ⟨#[32, 61, 32, 49, 44, 32, 50, 32, 100, 111, 32]⟩) ++ s) ++ ⟨#[32, 61, 32, 51, 32, 101, 110, 100, 32]⟩), ((((⟨#[102, 111, 114, 32, 107, 44, 32]⟩ ++ s) ++ ⟨#[32, 105, 110, 32, 75, 69, 89, 83, 32, 100, 111, 32]⟩) ++ s) ++ ⟨#[32, 61, 32, 107, 32, 101, 110, 100, 32]⟩), ((((((⟨#[108, 111, 99, 97, 108, 32, 102, 32, 61, 32, 102, 117, 110, 99, 116, 105, 111, 110, 40]⟩ ++ s) ++ ⟨#[41, 32]⟩) ++ s) ++ ⟨#[32, 61, 32, 49, 32, 114, 101, 116, 117, 114, 110, 32]⟩) ++ s) ++ ⟨#[32, 101, 110, 100, 32]⟩), ((((⟨#[114, 101, 112, 101, 97, 116, 32, 108, 111, 99, 97, 108, 32]⟩ ++ s) ++ ⟨#[32, 61, 32, 49, 32, 117, 110, 116, 105, 108, 32]⟩) ++ s) ++ ⟨#[32]⟩)]
def shS (s : ByteArray) (j : Nat) : ByteArray := (shY s).getD j ⟨#[]⟩
theorem litSh (s : ByteArray) (j : Nat) (h : j < ([Value.string ((((⟨#[100, 111, 32, 108, 111, 99, 97, 108, 32]⟩ ++ s) ++ ⟨#[32, 61, 32, 49, 32]⟩) ++ s) ++ ⟨#[32, 61, 32, 50, 32, 101, 110, 100, 32]⟩), Value.string ((((⟨#[102, 111, 114, 32]⟩ ++ s) ++ ⟨#[32, 61, 32, 49, 44, 32, 50, 32, 100, 111, 32]⟩) ++ s) ++ ⟨#[32, 61, 32, 51, 32, 101, 110, 100, 32]⟩), Value.string ((((⟨#[102, 111, 114, 32, 107, 44, 32]⟩ ++ s) ++ ⟨#[32, 105, 110, 32, 75, 69, 89, 83, 32, 100, 111, 32]⟩) ++ s) ++ ⟨#[32, 61, 32, 107, 32, 101, 110, 100, 32]⟩), Value.string ((((((⟨#[108, 111, 99, 97, 108, 32, 102, 32, 61, 32, 102, 117, 110, 99, 116, 105, 111, 110, 40]⟩ ++ s) ++ ⟨#[41, 32]⟩) ++ s) ++ ⟨#[32, 61, 32, 49, 32, 114, 101, 116, 117, 114, 110, 32]⟩) ++ s) ++ ⟨#[32, 101, 110, 100, 32]⟩), Value.string ((((⟨#[114, 101, 112, 101, 97, 116, 32, 108, 111, 99, 97, 108, 32]⟩ ++ s) ++ ⟨#[32, 61, 32, 49, 32, 117, 110, 116, 105, 108, 32]⟩) ++ s) ++ ⟨#[32]⟩)] : List Value).length) : ([Value.string ((((⟨#[100, 111, 32, 108, 111, 99, 97, 108, 32]⟩ ++ s) ++ ⟨#[32, 61, 32, 49, 32]⟩) ++ s) ++ ⟨#[32, 61, 32, 50, 32, 101, 110, 100, 32]⟩), Value.string ((((⟨#[102, 111, 114, 32]⟩ ++ s) ++ ⟨#[32, 61, 32, 49, 44, 32, 50, 32, 100, 111, 32]⟩) ++ s) ++ ⟨#[32, 61, 32, 51, 32, 101, 110, 100, 32]⟩), Value.string ((((⟨#[102, 111, 114, 32, 107, 44, 32]⟩ ++ s) ++ ⟨#[32, 105, 110, 32, 75, 69, 89, 83, 32, 100, 111, 32]⟩) ++ s) ++ ⟨#[32, 61, 32, 107, 32, 101, 110, 100, 32]⟩), Value.string ((((((⟨#[108, 111, 99, 97, 108, 32, 102, 32, 61, 32, 102, 117, 110, 99, 116, 105, 111, 110, 40]⟩ ++ s) ++ ⟨#[41, 32]⟩) ++ s) ++ ⟨#[32, 61, 32, 49, 32, 114, 101, 116, 117, 114, 110, 32]⟩) ++ s) ++ ⟨#[32, 101, 110, 100, 32]⟩), Value.string ((((⟨#[114, 101, 112, 101, 97, 116, 32, 108, 111, 99, 97, 108, 32]⟩ ++ s) ++ ⟨#[32, 61, 32, 49, 32, 117, 110, 116, 105, 108, 32]⟩) ++ s) ++ ⟨#[32]⟩)] : List Value)[j] = .string (shS s j) := by
  refine at_of h ?_
  show ((shY s).map Value.string)[j]? = _
  have h' : j < (shY s).length := h
  rw [List.getElem?_map, List.getElem?_eq_getElem h']
  unfold shS
  rw [List.getD_eq_getElem?_getD, List.getElem?_eq_getElem h']
  rfl
def shT (r j : Nat) : ByteArray := shS (nN r) j ++ nN r ++ ⟨#[32, 61, 32, 53]⟩
def goodS (r j : Nat) : Bool := okS (shS (nN r) j) && (okS (shT r j) && (decide ((ScM.chk (ansS (shS (nN r) j)).1).err = 0) && (decide ((ScM.chk (ansS (shS (nN r) j)).1).at_ = 0) && (decide ((ScM.chk (ansS (shT r j)).1).err = if r = 3 then 0 else 14) && (decide ((ScM.chk (ansS (shT r j)).1).at_ = if r = 3 then 0 else ((shS (nN r) j).size : Int)) && (decide ((shS (nN r) j).size ≤ 100) && decide ((nN r).size ≤ 5)))))))
theorem allSh : ((List.range 6).all fun r => (List.range 5).all fun j => goodS r j) = true := by decide +kernel
theorem goodS_at (r j : Nat) (h : r < 6) (h2 : j < 5) : ∃ M M2 : X,
    ((shS (nN r) j).size ≤ 100 ∧ (nN r).size ≤ 5) ∧
    (∀ W : World, Calls Try.prog 9 #[.string (shS (nN r) j)] W fun e W' => (∃ A c, e = .returned (.tuple #[.slice A M.len c, .int .i64 0, .int .i64 0]) ∧ Sl M.len (Rd W' (Lo W) M).row 5 (.slice A M.len c)) ∧ Below W.heap.size W W') ∧
    (∀ (W : World) (P : Nat → Prop) (v : Value), Sl M.len (Rd W P M).row 5 v → Calls Try.prog 10 #[v] W fun en w' => en = .returned (.tuple #[.int .i64 0, .int .i64 0]) ∧ Below W.heap.size W w') ∧
    (∀ W : World, Calls Try.prog 9 #[.string (shT r j)] W fun e W' => (∃ A c, e = .returned (.tuple #[.slice A M2.len c, .int .i64 0, .int .i64 0]) ∧ Sl M2.len (Rd W' (Lo W) M2).row 5 (.slice A M2.len c)) ∧ Below W.heap.size W W') ∧
    (∀ (W : World) (P : Nat → Prop) (v : Value), Sl M2.len (Rd W P M2).row 5 v → Calls Try.prog 10 #[v] W fun en w' => en = .returned (.tuple #[.int .i64 (if r = 3 then 0 else 14), .int .i64 (if r = 3 then 0 else ((shS (nN r) j).size : Int))]) ∧ Below W.heap.size W w') := by
  have g := List.all_eq_true.1 (List.all_eq_true.1 allSh r (List.mem_range.2 h)) j (List.mem_range.2 h2)
  simp only [goodS, Bool.and_eq_true, decide_eq_true_eq] at g
  obtain ⟨g1, g2, g3, g4, g5, g6, g7, g8⟩ := g
  obtain ⟨a, b⟩ := known_at _ g1 _ _ ⟨g3, g4⟩ _ rfl
  obtain ⟨c, d⟩ := known_at _ g2 _ _ ⟨g5, g6⟩ _ rfl
  exact ⟨_, _, ⟨g7, g8⟩, a, b, c, d⟩
theorem ownM (r : Nat) (h : r = 3) : nN r = ⟨#[75, 69, 89, 83]⟩ := by subst h; rfl
theorem ownN (r : Nat) (h : r < 6) : (nN r).toList = [75, 69, 89, 83] ↔ r = 3 := by
  rcases r with _ | _ | _ | _ | _ | _ | r <;> first | decide +kernel | omega
set_option maxRecDepth 20000 in
set_option maxHeartbeats 4000000 in
theorem shadows_walk (w : World) (n h : Int) : Calls Try.prog 7 #[.int .i64 n, .int .i64 h] w fun en w' => en = .returned (.bool true) ∧ Below w.heap.size w w' := by
  have TO := Lib.hid (fun W => told_s W)
  obtain ⟨r, hr, hm⟩ := mod6 n
  obtain ⟨j, hj, hu⟩ := mod5u h
  obtain ⟨M, M2, z, k1, k2, k3, k4⟩ := goodS_at r j hr hj
  have SC := Lib.hid k1
  have CK := Lib.hid k2
  have SD := Lib.hid k3
  have CL := Lib.hid k4
  have OW := ownN r hr
  have OM := ownM r
  have LN := litN r (by simpa using hr)
  have LS := litSh (nN r) j (by simpa using hj)
  have i0 : (0 : Int) ≤ (r : Int) := by omega
  have i1 : (r : Int) < 6 := by omega
  have i2 : (0 : Int) ≤ (j : Int) := by omega
  have i3 : (j : Int) < 5 := by omega
  unfold shT at SD
  obtain ⟨a, ha⟩ : ∃ a, shS (nN r) j = a := ⟨_, rfl⟩
  rw [ha] at SC SD CL LS z
  obtain ⟨s, hs⟩ : ∃ s, nN r = s := ⟨_, rfl⟩
  rw [hs] at LN SD LS z OW OM
  have z1 := z.1
  have z2 := z.2
  have B0 := Lib.hid (fun (o o2 : Obj) => ((Below.refl w.heap.size w).alloc (Nat.le_refl _) o).alloc (Nat.le_of_lt (al_lt w o)) o2)
  have c1 : ¬ 9223372036854775807 < a.size + s.size := by omega
  have c2 : ¬ 9223372036854775807 < a.size + s.size + 4 := by omega
  clear hs ha k1 k2 k3 k4 z
  by_cases q : r = 3
  · have q1 : s = ⟨#[75, 69, 89, 83]⟩ := OM q
    rw [if_pos q, if_pos q] at CL
    subst q1
    clear OW OM
    go_enter Try.func7, Try.ntmps7
    go_wp2_with (first
      | (go_at_call 9; (with_reducible refine (SC.out _).mono ?_); rintro e w1 ⟨⟨A1, c1, rfl, s1⟩, b1⟩; have S1 := Lib.hid s1; have Y1 := Lib.hid ((B0.out _ _).trans (b1.mono (B0.out _ _).size)); clear s1 b1)
      | (go_at_call 9; (with_reducible refine (SD.out _).mono ?_); rintro e w2 ⟨⟨A2, c2, rfl, s2⟩, b2⟩; have S2 := Lib.hid s2; have S3 := Lib.hid (S1.out.imp (Rd.move (Moves.of_below b2 (fun _ hk _ => hk)) M).2.1); have Y2 := Lib.hid (Y1.out.trans (b2.mono Y1.out.size)); clear s2 b2 S1)
      | (go_at_call 10; refine (CK.out _ _ _ S3.out).mono ?_; rintro e w3 ⟨rfl, b3⟩; have S4 := Lib.hid (S2.out.imp (Rd.move (Moves.of_below b3 (fun _ hk _ => hk)) M2).2.1); have Y3 := Lib.hid (Y2.out.trans (b3.mono Y2.out.size)); clear b3 S2 S3)
      | (go_at_call 10; refine (CL.out _ _ _ S4.out).mono ?_; rintro e w4 ⟨rfl, b4⟩; have Y4 := Lib.hid (Y3.out.trans (b4.mono Y3.out.size)); clear b4 S4)
      | (go_at_call 8; refine (TO.out _).mono ?_; rintro e w5 ⟨rfl, b5⟩; have Y5 := Lib.hid (Y4.out.trans (b5.mono Y4.out.size)); clear b5))
    go_ret
    exact ⟨by simp, Y5.out⟩
  · have q1 : ¬ s.toList = [75, 69, 89, 83] := fun e => q (OW.1 e)
    rw [if_neg q, if_neg q] at CL
    clear OW OM
    go_enter Try.func7, Try.ntmps7
    go_wp2_with (first
      | (go_at_call 9; (with_reducible refine (SC.out _).mono ?_); rintro e w1 ⟨⟨A1, c1, rfl, s1⟩, b1⟩; have S1 := Lib.hid s1; have Y1 := Lib.hid ((B0.out _ _).trans (b1.mono (B0.out _ _).size)); clear s1 b1)
      | (go_at_call 9; (with_reducible refine (SD.out _).mono ?_); rintro e w2 ⟨⟨A2, c2, rfl, s2⟩, b2⟩; have S2 := Lib.hid s2; have S3 := Lib.hid (S1.out.imp (Rd.move (Moves.of_below b2 (fun _ hk _ => hk)) M).2.1); have Y2 := Lib.hid (Y1.out.trans (b2.mono Y1.out.size)); clear s2 b2 S1)
      | (go_at_call 10; refine (CK.out _ _ _ S3.out).mono ?_; rintro e w3 ⟨rfl, b3⟩; have S4 := Lib.hid (S2.out.imp (Rd.move (Moves.of_below b3 (fun _ hk _ => hk)) M2).2.1); have Y3 := Lib.hid (Y2.out.trans (b3.mono Y2.out.size)); clear b3 S2 S3)
      | (go_at_call 10; refine (CL.out _ _ _ S4.out).mono ?_; rintro e w4 ⟨rfl, b4⟩; have Y4 := Lib.hid (Y3.out.trans (b4.mono Y3.out.size)); clear b4 S4)
      | (go_at_call 8; refine (TO.out _).mono ?_; rintro e w5 ⟨rfl, b5⟩; have Y5 := Lib.hid (Y4.out.trans (b5.mono Y4.out.size)); clear b5))
    go_ret
    exact ⟨by simp [q1], Y5.out⟩
end Go.Proofs.Ytclfjkleijkekaa
