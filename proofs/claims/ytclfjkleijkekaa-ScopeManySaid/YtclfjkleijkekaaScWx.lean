/- The law ScopeKnown walked (printed by genscW.py). -/
import Derived.Test.YtclfjkleijkekaaScVx
namespace Go.Proofs.Ytclfjkleijkekaa
open Go.RowKit PrM
set_option linter.unusedVariables false
set_option linter.unusedSimpArgs false
def strsK : List ByteArray := [⟨#[114, 101, 116, 117, 114, 110, 32, 75, 69, 89, 83]⟩, ⟨#[108, 111, 99, 97, 108, 32, 120, 32, 61, 32, 120]⟩, ⟨List.toArray (108 :: 111 :: 99 :: 97 :: 108 :: 32 :: 102 :: 117 :: 110 :: 99 :: 116 :: 105 :: 111 :: 110 :: 32 :: 102 :: 40 :: 41 :: 32 :: 114 :: 101 :: 116 :: 117 :: 114 :: 110 :: 32 :: 102 :: 32 :: 101 :: 110 :: 100 :: [])⟩, ⟨#[120, 32, 61, 32, 49]⟩, ⟨#[116, 121, 112, 101, 32, 61, 32, 49]⟩, ⟨List.toArray (108 :: 111 :: 99 :: 97 :: 108 :: 32 :: 116 :: 121 :: 112 :: 101 :: 32 :: 61 :: 32 :: 49 :: 32 :: 116 :: 121 :: 112 :: 101 :: 32 :: 61 :: 32 :: 50 :: [])⟩, ⟨#[98, 114, 101, 97, 107]⟩, ⟨List.toArray (119 :: 104 :: 105 :: 108 :: 101 :: 32 :: 116 :: 114 :: 117 :: 101 :: 32 :: 100 :: 111 :: 32 :: 98 :: 114 :: 101 :: 97 :: 107 :: 32 :: 101 :: 110 :: 100 :: [])⟩, ⟨List.toArray (119 :: 104 :: 105 :: 108 :: 101 :: 32 :: 116 :: 114 :: 117 :: 101 :: 32 :: 100 :: 111 :: 32 :: 108 :: 111 :: 99 :: 97 :: 108 :: 32 :: 102 :: 32 :: 61 :: 32 :: 102 :: 117 :: 110 :: 99 :: 116 :: 105 :: 111 :: 110 :: 40 :: 41 :: 32 :: 98 :: 114 :: 101 :: 97 :: 107 :: 32 :: 101 :: 110 :: 100 :: 32 :: 101 :: 110 :: 100 :: [])⟩, ⟨List.toArray (114 :: 101 :: 112 :: 101 :: 97 :: 116 :: 32 :: 108 :: 111 :: 99 :: 97 :: 108 :: 32 :: 120 :: 32 :: 61 :: 32 :: 49 :: 32 :: 117 :: 110 :: 116 :: 105 :: 108 :: 32 :: 120 :: [])⟩, ⟨List.toArray (100 :: 111 :: 32 :: 108 :: 111 :: 99 :: 97 :: 108 :: 32 :: 120 :: 32 :: 101 :: 110 :: 100 :: 32 :: 114 :: 101 :: 116 :: 117 :: 114 :: 110 :: 32 :: 120 :: [])⟩, ⟨#[102, 111, 114, 32, 105, 32, 61, 32, 105, 44, 32, 50, 32, 100, 111, 32, 101, 110, 100]⟩, ⟨List.toArray (102 :: 111 :: 114 :: 32 :: 105 :: 32 :: 61 :: 32 :: 49 :: 44 :: 32 :: 50 :: 32 :: 100 :: 111 :: 32 :: 108 :: 111 :: 99 :: 97 :: 108 :: 32 :: 106 :: 32 :: 61 :: 32 :: 105 :: 32 :: 101 :: 110 :: 100 :: 32 :: 114 :: 101 :: 116 :: 117 :: 114 :: 110 :: 32 :: 105 :: [])⟩, ⟨List.toArray (102 :: 111 :: 114 :: 32 :: 107 :: 44 :: 32 :: 118 :: 32 :: 105 :: 110 :: 32 :: 75 :: 69 :: 89 :: 83 :: 32 :: 100 :: 111 :: 32 :: 108 :: 111 :: 99 :: 97 :: 108 :: 32 :: 120 :: 32 :: 61 :: 32 :: 107 :: 32 :: 120 :: 32 :: 61 :: 32 :: 118 :: 32 :: 101 :: 110 :: 100 :: [])⟩, ⟨List.toArray (105 :: 102 :: 32 :: 116 :: 114 :: 117 :: 101 :: 32 :: 116 :: 104 :: 101 :: 110 :: 32 :: 108 :: 111 :: 99 :: 97 :: 108 :: 32 :: 120 :: 32 :: 101 :: 108 :: 115 :: 101 :: 32 :: 114 :: 101 :: 116 :: 117 :: 114 :: 110 :: 32 :: 120 :: 32 :: 101 :: 110 :: 100 :: [])⟩, ⟨List.toArray (108 :: 111 :: 99 :: 97 :: 108 :: 32 :: 120 :: 32 :: 61 :: 32 :: 102 :: 117 :: 110 :: 99 :: 116 :: 105 :: 111 :: 110 :: 40 :: 97 :: 41 :: 32 :: 114 :: 101 :: 116 :: 117 :: 114 :: 110 :: 32 :: 97 :: 32 :: 101 :: 110 :: 100 :: 32 :: 114 :: 101 :: 116 :: 117 :: 114 :: 110 :: 32 :: 97 :: [])⟩, ⟨#[108, 111, 99, 97, 108, 32, 120, 32, 120, 46, 121, 46, 122, 32, 61, 32, 119]⟩, ⟨#[114, 101, 112, 101, 97, 116, 32, 117, 110, 116, 105, 108, 32, 98, 114, 101, 97, 107, 49]⟩, ⟨#[75, 69, 89, 83, 32, 61, 32, 49]⟩, ⟨List.toArray (108 :: 111 :: 99 :: 97 :: 108 :: 32 :: 120 :: 32 :: 61 :: 32 :: 102 :: 117 :: 110 :: 99 :: 116 :: 105 :: 111 :: 110 :: 40 :: 41 :: 32 :: 120 :: 32 :: 61 :: 32 :: 49 :: 32 :: 101 :: 110 :: 100 :: [])⟩]
def badK : List Int := [-1, 10, -1, 0, 0, -1, 0, -1, 35, -1, 22, 8, 39, -1, 33, 42, 16, 13, -1, 21]
def sK (r : Nat) : ByteArray := strsK.getD r ⟨#[]⟩
def bK (r : Nat) : Int := badK.getD r 0
def goodK (r : Nat) : Bool := okS (sK r) && (decide ((ScM.chk (ansS (sK r)).1).err = if bK r < 0 then 0 else 14) && decide ((ScM.chk (ansS (sK r)).1).at_ = if bK r < 0 then 0 else bK r))
theorem allK : (List.range 20).all goodK = true := by decide +kernel
theorem mod20 (k : Int) : ∃ m : Nat, m < 20 ∧ (wrap64 (k.tmod 20 + 20)).tmod 20 = (m : Int) := by
  have h1 : -20 < k.tmod 20 := Int.lt_tmod_of_pos k (by omega)
  have h2 : k.tmod 20 < 20 := Int.tmod_lt_of_pos k (by omega)
  have e : wrap64 (k.tmod 20 + 20) = k.tmod 20 + 20 := by unfold wrap64; omega
  rw [e, Int.tmod_eq_emod_of_nonneg (by omega)]
  exact ⟨((k.tmod 20 + 20) % 20).toNat, by omega, by omega⟩
theorem at_of {l : List Value} {r : Nat} (h : r < l.length) {v : Value} (e : l[r]? = some v) : l[r] = v := by
  rw [List.getElem?_eq_getElem h] at e
  exact Option.some.inj e
theorem litK (r : Nat) (h : r < ([Value.string ⟨#[114, 101, 116, 117, 114, 110, 32, 75, 69, 89, 83]⟩, Value.string ⟨#[108, 111, 99, 97, 108, 32, 120, 32, 61, 32, 120]⟩, Value.string ⟨List.toArray (108 :: 111 :: 99 :: 97 :: 108 :: 32 :: 102 :: 117 :: 110 :: 99 :: 116 :: 105 :: 111 :: 110 :: 32 :: 102 :: 40 :: 41 :: 32 :: 114 :: 101 :: 116 :: 117 :: 114 :: 110 :: 32 :: 102 :: 32 :: 101 :: 110 :: 100 :: [])⟩, Value.string ⟨#[120, 32, 61, 32, 49]⟩, Value.string ⟨#[116, 121, 112, 101, 32, 61, 32, 49]⟩, Value.string ⟨List.toArray (108 :: 111 :: 99 :: 97 :: 108 :: 32 :: 116 :: 121 :: 112 :: 101 :: 32 :: 61 :: 32 :: 49 :: 32 :: 116 :: 121 :: 112 :: 101 :: 32 :: 61 :: 32 :: 50 :: [])⟩, Value.string ⟨#[98, 114, 101, 97, 107]⟩, Value.string ⟨List.toArray (119 :: 104 :: 105 :: 108 :: 101 :: 32 :: 116 :: 114 :: 117 :: 101 :: 32 :: 100 :: 111 :: 32 :: 98 :: 114 :: 101 :: 97 :: 107 :: 32 :: 101 :: 110 :: 100 :: [])⟩, Value.string ⟨List.toArray (119 :: 104 :: 105 :: 108 :: 101 :: 32 :: 116 :: 114 :: 117 :: 101 :: 32 :: 100 :: 111 :: 32 :: 108 :: 111 :: 99 :: 97 :: 108 :: 32 :: 102 :: 32 :: 61 :: 32 :: 102 :: 117 :: 110 :: 99 :: 116 :: 105 :: 111 :: 110 :: 40 :: 41 :: 32 :: 98 :: 114 :: 101 :: 97 :: 107 :: 32 :: 101 :: 110 :: 100 :: 32 :: 101 :: 110 :: 100 :: [])⟩, Value.string ⟨List.toArray (114 :: 101 :: 112 :: 101 :: 97 :: 116 :: 32 :: 108 :: 111 :: 99 :: 97 :: 108 :: 32 :: 120 :: 32 :: 61 :: 32 :: 49 :: 32 :: 117 :: 110 :: 116 :: 105 :: 108 :: 32 :: 120 :: [])⟩, Value.string ⟨List.toArray (100 :: 111 :: 32 :: 108 :: 111 :: 99 :: 97 :: 108 :: 32 :: 120 :: 32 :: 101 :: 110 :: 100 :: 32 :: 114 :: 101 :: 116 :: 117 :: 114 :: 110 :: 32 :: 120 :: [])⟩, Value.string ⟨#[102, 111, 114, 32, 105, 32, 61, 32, 105, 44, 32, 50, 32, 100, 111, 32, 101, 110, 100]⟩, Value.string ⟨List.toArray (102 :: 111 :: 114 :: 32 :: 105 :: 32 :: 61 :: 32 :: 49 :: 44 :: 32 :: 50 :: 32 :: 100 :: 111 :: 32 :: 108 :: 111 :: 99 :: 97 :: 108 :: 32 :: 106 :: 32 :: 61 :: 32 :: 105 :: 32 :: 101 :: 110 :: 100 :: 32 :: 114 :: 101 :: 116 :: 117 :: 114 :: 110 :: 32 :: 105 :: [])⟩, Value.string ⟨List.toArray (102 :: 111 :: 114 :: 32 :: 107 :: 44 :: 32 :: 118 :: 32 :: 105 :: 110 :: 32 :: 75 :: 69 :: 89 :: 83 :: 32 :: 100 :: 111 :: 32 :: 108 :: 111 :: 99 :: 97 :: 108 :: 32 :: 120 :: 32 :: 61 :: 32 :: 107 :: 32 :: 120 :: 32 :: 61 :: 32 :: 118 :: 32 :: 101 :: 110 :: 100 :: [])⟩, Value.string ⟨List.toArray (105 :: 102 :: 32 :: 116 :: 114 :: 117 :: 101 :: 32 :: 116 :: 104 :: 101 :: 110 :: 32 :: 108 :: 111 :: 99 :: 97 :: 108 :: 32 :: 120 :: 32 :: 101 :: 108 :: 115 :: 101 :: 32 :: 114 :: 101 :: 116 :: 117 :: 114 :: 110 :: 32 :: 120 :: 32 :: 101 :: 110 :: 100 :: [])⟩, Value.string ⟨List.toArray (108 :: 111 :: 99 :: 97 :: 108 :: 32 :: 120 :: 32 :: 61 :: 32 :: 102 :: 117 :: 110 :: 99 :: 116 :: 105 :: 111 :: 110 :: 40 :: 97 :: 41 :: 32 :: 114 :: 101 :: 116 :: 117 :: 114 :: 110 :: 32 :: 97 :: 32 :: 101 :: 110 :: 100 :: 32 :: 114 :: 101 :: 116 :: 117 :: 114 :: 110 :: 32 :: 97 :: [])⟩, Value.string ⟨#[108, 111, 99, 97, 108, 32, 120, 32, 120, 46, 121, 46, 122, 32, 61, 32, 119]⟩, Value.string ⟨#[114, 101, 112, 101, 97, 116, 32, 117, 110, 116, 105, 108, 32, 98, 114, 101, 97, 107, 49]⟩, Value.string ⟨#[75, 69, 89, 83, 32, 61, 32, 49]⟩, Value.string ⟨List.toArray (108 :: 111 :: 99 :: 97 :: 108 :: 32 :: 120 :: 32 :: 61 :: 32 :: 102 :: 117 :: 110 :: 99 :: 116 :: 105 :: 111 :: 110 :: 40 :: 41 :: 32 :: 120 :: 32 :: 61 :: 32 :: 49 :: 32 :: 101 :: 110 :: 100 :: [])⟩] : List Value).length) : ([Value.string ⟨#[114, 101, 116, 117, 114, 110, 32, 75, 69, 89, 83]⟩, Value.string ⟨#[108, 111, 99, 97, 108, 32, 120, 32, 61, 32, 120]⟩, Value.string ⟨List.toArray (108 :: 111 :: 99 :: 97 :: 108 :: 32 :: 102 :: 117 :: 110 :: 99 :: 116 :: 105 :: 111 :: 110 :: 32 :: 102 :: 40 :: 41 :: 32 :: 114 :: 101 :: 116 :: 117 :: 114 :: 110 :: 32 :: 102 :: 32 :: 101 :: 110 :: 100 :: [])⟩, Value.string ⟨#[120, 32, 61, 32, 49]⟩, Value.string ⟨#[116, 121, 112, 101, 32, 61, 32, 49]⟩, Value.string ⟨List.toArray (108 :: 111 :: 99 :: 97 :: 108 :: 32 :: 116 :: 121 :: 112 :: 101 :: 32 :: 61 :: 32 :: 49 :: 32 :: 116 :: 121 :: 112 :: 101 :: 32 :: 61 :: 32 :: 50 :: [])⟩, Value.string ⟨#[98, 114, 101, 97, 107]⟩, Value.string ⟨List.toArray (119 :: 104 :: 105 :: 108 :: 101 :: 32 :: 116 :: 114 :: 117 :: 101 :: 32 :: 100 :: 111 :: 32 :: 98 :: 114 :: 101 :: 97 :: 107 :: 32 :: 101 :: 110 :: 100 :: [])⟩, Value.string ⟨List.toArray (119 :: 104 :: 105 :: 108 :: 101 :: 32 :: 116 :: 114 :: 117 :: 101 :: 32 :: 100 :: 111 :: 32 :: 108 :: 111 :: 99 :: 97 :: 108 :: 32 :: 102 :: 32 :: 61 :: 32 :: 102 :: 117 :: 110 :: 99 :: 116 :: 105 :: 111 :: 110 :: 40 :: 41 :: 32 :: 98 :: 114 :: 101 :: 97 :: 107 :: 32 :: 101 :: 110 :: 100 :: 32 :: 101 :: 110 :: 100 :: [])⟩, Value.string ⟨List.toArray (114 :: 101 :: 112 :: 101 :: 97 :: 116 :: 32 :: 108 :: 111 :: 99 :: 97 :: 108 :: 32 :: 120 :: 32 :: 61 :: 32 :: 49 :: 32 :: 117 :: 110 :: 116 :: 105 :: 108 :: 32 :: 120 :: [])⟩, Value.string ⟨List.toArray (100 :: 111 :: 32 :: 108 :: 111 :: 99 :: 97 :: 108 :: 32 :: 120 :: 32 :: 101 :: 110 :: 100 :: 32 :: 114 :: 101 :: 116 :: 117 :: 114 :: 110 :: 32 :: 120 :: [])⟩, Value.string ⟨#[102, 111, 114, 32, 105, 32, 61, 32, 105, 44, 32, 50, 32, 100, 111, 32, 101, 110, 100]⟩, Value.string ⟨List.toArray (102 :: 111 :: 114 :: 32 :: 105 :: 32 :: 61 :: 32 :: 49 :: 44 :: 32 :: 50 :: 32 :: 100 :: 111 :: 32 :: 108 :: 111 :: 99 :: 97 :: 108 :: 32 :: 106 :: 32 :: 61 :: 32 :: 105 :: 32 :: 101 :: 110 :: 100 :: 32 :: 114 :: 101 :: 116 :: 117 :: 114 :: 110 :: 32 :: 105 :: [])⟩, Value.string ⟨List.toArray (102 :: 111 :: 114 :: 32 :: 107 :: 44 :: 32 :: 118 :: 32 :: 105 :: 110 :: 32 :: 75 :: 69 :: 89 :: 83 :: 32 :: 100 :: 111 :: 32 :: 108 :: 111 :: 99 :: 97 :: 108 :: 32 :: 120 :: 32 :: 61 :: 32 :: 107 :: 32 :: 120 :: 32 :: 61 :: 32 :: 118 :: 32 :: 101 :: 110 :: 100 :: [])⟩, Value.string ⟨List.toArray (105 :: 102 :: 32 :: 116 :: 114 :: 117 :: 101 :: 32 :: 116 :: 104 :: 101 :: 110 :: 32 :: 108 :: 111 :: 99 :: 97 :: 108 :: 32 :: 120 :: 32 :: 101 :: 108 :: 115 :: 101 :: 32 :: 114 :: 101 :: 116 :: 117 :: 114 :: 110 :: 32 :: 120 :: 32 :: 101 :: 110 :: 100 :: [])⟩, Value.string ⟨List.toArray (108 :: 111 :: 99 :: 97 :: 108 :: 32 :: 120 :: 32 :: 61 :: 32 :: 102 :: 117 :: 110 :: 99 :: 116 :: 105 :: 111 :: 110 :: 40 :: 97 :: 41 :: 32 :: 114 :: 101 :: 116 :: 117 :: 114 :: 110 :: 32 :: 97 :: 32 :: 101 :: 110 :: 100 :: 32 :: 114 :: 101 :: 116 :: 117 :: 114 :: 110 :: 32 :: 97 :: [])⟩, Value.string ⟨#[108, 111, 99, 97, 108, 32, 120, 32, 120, 46, 121, 46, 122, 32, 61, 32, 119]⟩, Value.string ⟨#[114, 101, 112, 101, 97, 116, 32, 117, 110, 116, 105, 108, 32, 98, 114, 101, 97, 107, 49]⟩, Value.string ⟨#[75, 69, 89, 83, 32, 61, 32, 49]⟩, Value.string ⟨List.toArray (108 :: 111 :: 99 :: 97 :: 108 :: 32 :: 120 :: 32 :: 61 :: 32 :: 102 :: 117 :: 110 :: 99 :: 116 :: 105 :: 111 :: 110 :: 40 :: 41 :: 32 :: 120 :: 32 :: 61 :: 32 :: 49 :: 32 :: 101 :: 110 :: 100 :: [])⟩] : List Value)[r] = .string (sK r) := by
  refine at_of h ?_
  show (strsK.map Value.string)[r]? = _
  have h' : r < strsK.length := h
  rw [List.getElem?_map, List.getElem?_eq_getElem h']
  unfold sK
  rw [List.getD_eq_getElem?_getD, List.getElem?_eq_getElem h']
  rfl
def KI : Array Value := (badK.map (Value.int .i64)).toArray
theorem atKI (r : Nat) (h : r < 20) : KI[r]? = some (.int .i64 (bK r)) := by
  have h' : r < badK.length := h
  unfold KI bK
  rw [List.getElem?_toArray, List.getElem?_map, List.getElem?_eq_getElem h', List.getD_eq_getElem?_getD, List.getElem?_eq_getElem h']
  rfl
theorem cellKI (w w1 : World) (o : Obj) (b : Below ((w.alloc o).alloc (.cells KI 3)).heap.size ((w.alloc o).alloc (.cells KI 3)) w1) (r : Nat) (v : Int) (h : KI[r]? = some (.int .i64 v)) : w1.cell? ⟨w.heap.size + 1, r, none⟩ = some (.int .i64 v) := by
  have k := Blk.new (w.alloc o) KI 3
  rw [World.size_alloc] at k
  have k2 : w1.heap[w.heap.size + 1]? = _ := k.below b (by rw [World.size_alloc, World.size_alloc]; omega)
  unfold World.cell?
  rw [k2]
  exact h
theorem goodK_at (r : Nat) (h : r < 20) : ∃ M : X,
    (∀ W : World, Calls Try.prog 9 #[.string (sK r)] W fun e W' => (∃ A c, e = .returned (.tuple #[.slice A M.len c, .int .i64 0, .int .i64 0]) ∧ Sl M.len (Rd W' (Lo W) M).row 5 (.slice A M.len c)) ∧ Below W.heap.size W W') ∧
    ∀ (W : World) (P : Nat → Prop) (v : Value), Sl M.len (Rd W P M).row 5 v → Calls Try.prog 10 #[v] W fun en w' => en = .returned (.tuple #[.int .i64 (if bK r < 0 then 0 else 14), .int .i64 (if bK r < 0 then 0 else bK r)]) ∧ Below W.heap.size W w' := by
  have g := List.all_eq_true.1 allK r (List.mem_range.2 h)
  simp only [goodK, Bool.and_eq_true, decide_eq_true_eq] at g
  exact ⟨_, known_at (sK r) g.1 _ _ g.2 _ rfl⟩
set_option maxRecDepth 20000 in
set_option maxHeartbeats 4000000 in
theorem known_walk (w : World) (n : Int) : Calls Try.prog 6 #[.int .i64 n] w fun en w' => en = .returned (.bool true) ∧ Below w.heap.size w w' := by
  have TO := Lib.hid (fun W => told_s W)
  obtain ⟨r, hr, hm⟩ := mod20 n
  obtain ⟨M, k1, k2⟩ := goodK_at r hr
  have SC := Lib.hid k1
  have CK := Lib.hid k2
  have LK := litK r (by simpa using hr)
  have HB := Lib.hid (atKI r hr)
  have i0 : (0 : Int) ≤ (r : Int) := by omega
  have i1 : (r : Int) < 20 := by omega
  obtain ⟨s, hs⟩ : ∃ s, sK r = s := ⟨_, rfl⟩
  obtain ⟨b, hb⟩ : ∃ b, bK r = b := ⟨_, rfl⟩
  rw [hs] at SC LK
  rw [hb] at CK HB
  have B0 := Lib.hid (fun (o o2 : Obj) => ((Below.refl w.heap.size w).alloc (Nat.le_refl _) o).alloc (Nat.le_of_lt (al_lt w o)) o2)
  clear hs hb k1 k2
  by_cases q : b < 0
  · have q1 : decide (b < 0) = true := decide_eq_true q
    rw [if_pos q, if_pos q] at CK
    clear q
    go_enter Try.func6, Try.ntmps6
    go_wp2_with (first
      | (go_at_call 9; (with_reducible refine (SC.out _).mono ?_); rintro e w1 ⟨⟨A1, c1, rfl, s1⟩, b1⟩; have S1 := Lib.hid s1; have Y1 := Lib.hid ((B0.out _ _).trans (b1.mono (B0.out _ _).size)); have X1 := cellKI w w1 _ b1 r b HB.out; clear s1 b1)
      | (go_at_call 10; refine (CK.out _ _ _ S1.out).mono ?_; rintro e w2 ⟨rfl, b2⟩; have Y2 := Lib.hid (Y1.out.trans (b2.mono Y1.out.size)); have X2 := (World.cell?_of_block (b2.block (w.heap.size + 1) (World.block_lt_of_cell? _ _ X1))).trans X1; clear b2 X1)
      | (go_at_call 8; refine (TO.out _).mono ?_; rintro e w3 ⟨rfl, b3⟩; have Y3 := Lib.hid (Y2.out.trans (b3.mono Y2.out.size)); have X3 := (World.cell?_of_block (b3.block (w.heap.size + 1) (World.block_lt_of_cell? _ _ X2))).trans X2; clear b3 X2))
    go_ret
    exact ⟨rfl, Y3.out⟩
  · have q1 : decide (b < 0) = false := decide_eq_false q
    rw [if_neg q, if_neg q] at CK
    clear q
    go_enter Try.func6, Try.ntmps6
    go_wp2_with (first
      | (go_at_call 9; (with_reducible refine (SC.out _).mono ?_); rintro e w1 ⟨⟨A1, c1, rfl, s1⟩, b1⟩; have S1 := Lib.hid s1; have Y1 := Lib.hid ((B0.out _ _).trans (b1.mono (B0.out _ _).size)); have X1 := cellKI w w1 _ b1 r b HB.out; clear s1 b1)
      | (go_at_call 10; refine (CK.out _ _ _ S1.out).mono ?_; rintro e w2 ⟨rfl, b2⟩; have Y2 := Lib.hid (Y1.out.trans (b2.mono Y1.out.size)); have X2 := (World.cell?_of_block (b2.block (w.heap.size + 1) (World.block_lt_of_cell? _ _ X1))).trans X1; clear b2 X1)
      | (go_at_call 8; refine (TO.out _).mono ?_; rintro e w3 ⟨rfl, b3⟩; have Y3 := Lib.hid (Y2.out.trans (b3.mono Y2.out.size)); have X3 := (World.cell?_of_block (b3.block (w.heap.size + 1) (World.block_lt_of_cell? _ _ X2))).trans X2; clear b3 X2))
    go_ret
    exact ⟨by simp, Y3.out⟩
end Go.Proofs.Ytclfjkleijkekaa
