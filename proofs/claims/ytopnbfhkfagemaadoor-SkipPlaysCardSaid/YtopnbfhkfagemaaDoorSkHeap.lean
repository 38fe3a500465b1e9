/- Package skip: names with their links in memory, level by level; what stores leave of them. -/
import Derived.Test.YtopnbfhkfagemaaDoorTurn
import Derived.Test.YtopnbfhkfagemaaDoorSkM
namespace Go.Proofs.YtopnbfhkfagemaaDoor
open Go.RowKit
set_option linter.unusedVariables false
/-- A name: its block, the block of its links, its name, its score, on how many levels it is. -/
structure Nd where
  b : Nat
  L : Nat
  s : List UInt8
  v : Int
  h : Nat
def Nd.e (x : Nd) : SkM.E := (x.s, x.v)
def pt (o : Option Nat) : Option Addr := o.map fun b => ⟨b, 0, none⟩
/-- A link that leads further by k. -/
def lon (k : Nat) : Option Nat × Nat → Option Nat × Nat
  | (none, _) => (none, 0)
  | (some b, n) => (some b, n + k)
/-- Where the link of level l leads, if these names stand behind it. -/
def nx (l : Nat) : List Nd → Option Nat × Nat
  | [] => (none, 0)
  | x :: r => if l < x.h then (some x.b, 1) else lon 1 (nx l r)
theorem lon_lon (a b : Nat) (x : Option Nat × Nat) : lon a (lon b x) = lon (b + a) x := by
  obtain ⟨o, n⟩ := x
  cases o with
  | none => rfl
  | some k => show (some k, n + b + a) = (some k, n + (b + a)); rw [Nat.add_assoc]
theorem nx_cases (l : Nat) : ∀ r : List Nd, (nx l r = (none, 0) ∧ ∀ y ∈ r, y.h ≤ l) ∨ ∃ A y C, r = A ++ y :: C ∧ (∀ z ∈ A, z.h ≤ l) ∧ l < y.h ∧ nx l r = (some y.b, A.length + 1)
  | [] => .inl ⟨rfl, fun y h => (nomatch h)⟩
  | x :: r => by
    unfold nx
    by_cases h : l < x.h
    · rw [if_pos h]
      exact .inr ⟨[], x, r, rfl, fun z h => (nomatch h), h, rfl⟩
    · rw [if_neg h]
      rcases nx_cases l r with ⟨e, k⟩ | ⟨A, y, C, rfl, k, hy, e⟩
      · rw [e]
        exact .inl ⟨rfl, fun y hy => by rcases List.mem_cons.1 hy with rfl | hy; omega; exact k y hy⟩
      · rw [e]
        exact .inr ⟨x :: A, y, C, rfl, fun z hz => by rcases List.mem_cons.1 hz with rfl | hz; omega; exact k z hz, hy, rfl⟩
theorem lon_zero (l : Nat) (r : List Nd) : lon 0 (nx l r) = nx l r := by
  rcases nx_cases l r with ⟨e, -⟩ | ⟨A, y, C, -, -, -, e⟩ <;> rw [e] <;> rfl
theorem nx_skip (l : Nat) : ∀ (A r : List Nd), (∀ y ∈ A, y.h ≤ l) → nx l (A ++ r) = lon A.length (nx l r)
  | [], r, _ => (lon_zero l r).symm
  | x :: A, r, h => by
    have h1 : ¬ l < x.h := by have := h x List.mem_cons_self; omega
    rw [List.cons_append, nx, if_neg h1, nx_skip l A r fun y hy => h y (List.mem_cons_of_mem _ hy), lon_lon, List.length_cons]
theorem nx_hit (l : Nat) : ∀ (P X Y : List Nd), (∃ y ∈ P, l < y.h) → nx l (P ++ X) = nx l (P ++ Y)
  | [], _, _, ⟨y, h, _⟩ => nomatch h
  | x :: P, X, Y, ⟨y, hy, k⟩ => by
    rw [List.cons_append, List.cons_append, nx, nx]
    by_cases h : l < x.h
    · rw [if_pos h, if_pos h]
    · rw [if_neg h, if_neg h]
      rcases List.mem_cons.1 hy with e | e
      · rw [e] at k; exact absurd k h
      · rw [nx_hit l P X Y ⟨y, e, k⟩]
theorem nx_le (l : Nat) (r : List Nd) : (nx l r).2 ≤ r.length := by
  rcases nx_cases l r with ⟨e, -⟩ | ⟨A, y, C, rfl, -, -, e⟩ <;> rw [e] <;> simp <;> omega
theorem nx_pos {l : Nat} {r : List Nd} (h : (nx l r).1 ≠ none) : 1 ≤ (nx l r).2 := by
  rcases nx_cases l r with ⟨e, -⟩ | ⟨A, y, C, rfl, -, -, e⟩
  · rw [e] at h; exact absurd rfl h
  · rw [e]; simp
theorem cell_in {w : World} {p : Addr} {v : Value} (h : w.cell? p = some v) : p.block < w.heap.size := by
  rcases Nat.lt_or_ge p.block w.heap.size with k | k
  · exact k
  · simp [World.cell?, Array.getElem?_eq_none k] at h
/-- The link of level l in the block B leads to where it should, if the names r stand behind it. -/
structure LinkAt (w : World) (B l : Nat) (r : List Nd) : Prop where
  to : w.cell? ⟨B, l * 2, none⟩ = some (.pointer (pt (nx l r).1))
  width : w.cell? ⟨B, l * 2 + 1, none⟩ = some (.int .i64 ((nx l r).2 : Int))
def LevR (w : World) (l : Nat) : List Nd → Prop
  | [] => True
  | x :: r => (l < x.h → LinkAt w x.L l r) ∧ LevR w l r
/-- A level: the first link's in the block F. -/
def Lev (w : World) (l F : Nat) (ns : List Nd) : Prop := LinkAt w F l ns ∧ LevR w l ns
/-- A name's own cells. -/
structure NdAt (w : World) (x : Nd) : Prop where
  name : w.cell? ⟨x.b, 0, none⟩ = some (.string ⟨x.s.toArray⟩)
  score : w.cell? ⟨x.b, 1, none⟩ = some (.int .i64 x.v)
  links : w.cell? ⟨x.b, 2, none⟩ = some (.slice (some ⟨x.L, 0, none⟩) x.h x.h)
  free : ∀ i, w.frozen? ⟨x.b, i, none⟩ = false
  lt : x.b < w.heap.size
  freeL : ∀ i, w.frozen? ⟨x.L, i, none⟩ = false
  ltL : x.L < w.heap.size
/-- A name's links have their cells, from a level on. -/
def Room (w : World) (x : Nd) (i : Nat) : Prop := ∀ l, i ≤ l → l < x.h → ∃ u v, w.cell? ⟨x.L, l * 2, none⟩ = some u ∧ w.cell? ⟨x.L, l * 2 + 1, none⟩ = some v
section
variable {D : Addr → Prop} {w w' : World}
theorem LinkAt.turn {B l : Nat} {r : List Nd} (h : LinkAt w B l r) (t : Turn D w w') (d0 : ¬ D ⟨B, l * 2, none⟩) (d1 : ¬ D ⟨B, l * 2 + 1, none⟩) : LinkAt w' B l r :=
  ⟨by rw [t.cell _ (cell_in h.to) d0, h.to], by rw [t.cell _ (cell_in h.width) d1, h.width]⟩
theorem LinkAt.eq {B l : Nat} {r r' : List Nd} (h : LinkAt w B l r) (e : nx l r = nx l r') : LinkAt w B l r' := ⟨by rw [← e]; exact h.to, by rw [← e]; exact h.width⟩
theorem LevR.turn {l : Nat} : ∀ {ns : List Nd}, LevR w l ns → Turn D w w' → (∀ x ∈ ns, l < x.h → ¬ D ⟨x.L, l * 2, none⟩ ∧ ¬ D ⟨x.L, l * 2 + 1, none⟩) → LevR w' l ns
  | [], _, _, _ => trivial
  | x :: r, h, t, d => ⟨fun k => (h.1 k).turn t (d x List.mem_cons_self k).1 (d x List.mem_cons_self k).2, LevR.turn h.2 t fun y hy => d y (List.mem_cons_of_mem _ hy)⟩
theorem Lev.turn {l F : Nat} {ns : List Nd} (h : Lev w l F ns) (t : Turn D w w') (d0 : ¬ D ⟨F, l * 2, none⟩) (d1 : ¬ D ⟨F, l * 2 + 1, none⟩) (d : ∀ x ∈ ns, l < x.h → ¬ D ⟨x.L, l * 2, none⟩ ∧ ¬ D ⟨x.L, l * 2 + 1, none⟩) : Lev w' l F ns := ⟨h.1.turn t d0 d1, h.2.turn t d⟩
theorem NdAt.turn {x : Nd} (h : NdAt w x) (t : Turn D w w') (d : ∀ i, ¬ D ⟨x.b, i, none⟩) : NdAt w' x :=
  ⟨by rw [t.cell _ h.lt (d 0), h.name], by rw [t.cell _ h.lt (d 1), h.score], by rw [t.cell _ h.lt (d 2), h.links], fun i => by rw [t.frozen _ h.lt, h.free], Nat.lt_of_lt_of_le h.lt t.size, fun i => by rw [t.frozen _ h.ltL, h.freeL], Nat.lt_of_lt_of_le h.ltL t.size⟩
theorem Room.turn {x : Nd} {i : Nat} (h : Room w x i) (t : Turn D w w') (d : ∀ l, i ≤ l → ¬ D ⟨x.L, l * 2, none⟩ ∧ ¬ D ⟨x.L, l * 2 + 1, none⟩) : Room w' x i := fun l hl k => by
  obtain ⟨u, v, h1, h2⟩ := h l hl k
  exact ⟨u, v, by rw [t.cell _ (cell_in h1) (d l hl).1, h1], by rw [t.cell _ (cell_in h2) (d l hl).2, h2]⟩
theorem Room.up {x : Nd} {i j : Nat} (h : Room w x i) (k : i ≤ j) : Room w x j := fun l hl => h l (by omega)
end
/-- The names P stand ahead; the last of them that is on level l, or the front, has its links in the block B, c of them; it is P's last. -/
def Hind (F l : Nat) (P : List Nd) (B c : Nat) : Prop := (P = [] ∧ B = F ∧ c = 20) ∨ ∃ P' x, P = P' ++ [x] ∧ B = x.L ∧ c = x.h ∧ l < x.h
theorem LevR.at_ {w : World} {l : Nat} {x : Nd} {r : List Nd} : ∀ {P : List Nd}, LevR w l (P ++ x :: r) → l < x.h → LinkAt w x.L l r
  | [], h, k => h.1 k
  | _ :: _, h, k => LevR.at_ h.2 k
theorem Lev.at_ {w : World} {l F B c : Nat} {P r : List Nd} (h : Lev w l F (P ++ r)) (o : Hind F l P B c) : LinkAt w B l r := by
  rcases o with ⟨rfl, rfl, -⟩ | ⟨P', x, rfl, rfl, -, k⟩
  · exact h.1
  · have h2 := h.2
    rw [List.append_assoc] at h2
    exact LevR.at_ h2 k
theorem LevR.low {w : World} {l : Nat} {r : List Nd} : ∀ {A : List Nd}, (∀ y ∈ A, y.h ≤ l) → LevR w l r → LevR w l (A ++ r)
  | [], _, h => h
  | x :: A, k, h => ⟨fun c => absurd c (by have := k x List.mem_cons_self; omega), LevR.low (fun y hy => k y (List.mem_cons_of_mem _ hy)) h⟩
theorem LevR.back {w : World} {l : Nat} {r : List Nd} : ∀ {A : List Nd}, LevR w l (A ++ r) → LevR w l r
  | [], h => h
  | _ :: _, h => LevR.back h.2
theorem LevR.turned {D : Addr → Prop} {w w' : World} {l : Nat} {x : Nd} {X Y : List Nd} (t : Turn D w w') (hx : l < x.h) : ∀ {P : List Nd}, LevR w l (P ++ x :: X) → (∀ y ∈ P, l < y.h → ¬ D ⟨y.L, l * 2, none⟩ ∧ ¬ D ⟨y.L, l * 2 + 1, none⟩) → LinkAt w' x.L l Y → LevR w' l Y → LevR w' l (P ++ x :: Y)
  | [], _, _, k, r => ⟨fun _ => k, r⟩
  | y :: P, h, d, k, r => ⟨fun c => ((h.1 c).turn t (d y List.mem_cons_self c).1 (d y List.mem_cons_self c).2).eq (by
      have e1 : P ++ x :: X = (P ++ [x]) ++ X := by simp
      have e2 : P ++ x :: Y = (P ++ [x]) ++ Y := by simp
      show nx l (P ++ x :: X) = nx l (P ++ x :: Y)
      rw [e1, e2]
      exact nx_hit l _ X Y ⟨x, by simp, hx⟩), LevR.turned t hx h.2 (fun z hz => d z (List.mem_cons_of_mem _ hz)) k r⟩
/-- A level with another rest behind A. -/
theorem Lev.turned {D : Addr → Prop} {w w' : World} {l F B c : Nat} {P A r r' : List Nd} (h : Lev w l F (P ++ (A ++ r))) (o : Hind F l P B c) (hA : ∀ y ∈ A, y.h ≤ l) (t : Turn D w w')
    (nd : (F :: P.map Nd.L).Nodup) (dF : F ≠ B → ∀ i, ¬ D ⟨F, i, none⟩) (dP : ∀ y ∈ P, y.L ≠ B → ∀ i, ¬ D ⟨y.L, i, none⟩)
    (hB : LinkAt w' B l (A ++ r')) (hr : LevR w' l r') : Lev w' l F (P ++ (A ++ r')) := by
  rcases o with ⟨rfl, rfl, -⟩ | ⟨P', x, rfl, rfl, -, k⟩
  · exact ⟨hB, show LevR w' l (A ++ r') from LevR.low hA hr⟩
  · have n1 := List.nodup_cons.1 nd
    have n2 := List.nodup_append.1 (show (P'.map Nd.L ++ [x.L]).Nodup by have := n1.2; rw [List.map_append] at this; exact this)
    have fx : F ≠ x.L := fun e => n1.1 (by rw [e]; simp)
    refine ⟨(h.1.turn t (dF fx _) (dF fx _)).eq (nx_hit l _ _ _ ⟨x, by simp, k⟩), ?_⟩
    have h2 := h.2
    rw [List.append_assoc] at h2 ⊢
    refine LevR.turned t k h2 (fun y hy _ => ?_) hB (show LevR w' l (A ++ r') from LevR.low hA hr)
    have ne : y.L ≠ x.L := fun e => n2.2.2 y.L (List.mem_map.2 ⟨y, hy, rfl⟩) x.L (by simp) e
    exact ⟨dP y (List.mem_append_left _ hy) ne _, dP y (List.mem_append_left _ hy) ne _⟩
end Go.Proofs.YtopnbfhkfagemaaDoor
